package threshold

import (
	"slices"

	"familycheck/api"
)

// The functions of this file follow the document's sentences one by one, without regard to work. Their arguments have no errors.

func plainThresholds(p api.Protocol) []api.Threshold {
	var list []api.Threshold
	for _, r := range p.Rules {
		for _, guard := range r.Guards {
			if !slices.Contains(list, guard) {
				list = append(list, guard)
			}
		}
	}
	return list
}

// plainSequences returns all lists of length up to the given one with numbers below count, in ascending order.
func plainSequences(count, length int) [][]int {
	list := [][]int{nil}
	for i := 0; i < len(list); i++ {
		for x := range count {
			if len(list[i]) < length {
				list = append(list, append(slices.Clone(list[i]), x))
			}
		}
	}
	slices.SortFunc(list, slices.Compare)
	return list
}

func plainIsSchema(p api.Protocol, list []int) bool {
	count := len(plainThresholds(p))
	seen := map[int]bool{}
	for _, x := range list {
		if x < 0 || x >= count || seen[x] {
			return false
		}
		seen[x] = true
	}
	return true
}

func plainSchemas(p api.Protocol) [][]int {
	count := len(plainThresholds(p))
	return slices.DeleteFunc(plainSequences(count, count), func(list []int) bool { return !plainIsSchema(p, list) })
}

func plainChoices(p api.Protocol, q api.Property) [][]int {
	list := [][]int{nil}
	if q.Kind == api.Never {
		return list
	}
	for _, r := range p.Rules {
		var longer [][]int
		for _, x := range list {
			for choice := range len(r.Guards) + 1 {
				longer = append(longer, append(slices.Clone(x), choice))
			}
		}
		list = longer
	}
	slices.SortFunc(list, slices.Compare)
	return list
}

func plainStarts(p api.Protocol, q api.Property) []int {
	if len(q.Start) > 0 {
		return q.Start
	}
	return p.Initial
}

func plainHasFaulty(p api.Protocol) bool {
	return p.Fault == api.Crash || p.Fault == api.Omission
}

func plainVariables(p api.Protocol, q api.Property, schema []int) []Variable {
	list := []Variable{{Kind: ParamN}, {Kind: ParamT}, {Kind: ParamF}}
	for _, state := range plainStarts(p, q) {
		list = append(list, Variable{Kind: CorrectStart, Index: state})
	}
	if plainHasFaulty(p) {
		for _, state := range p.Initial {
			list = append(list, Variable{Kind: FaultyStart, Index: state})
		}
	}
	thresholds := plainThresholds(p)
	for segment := 0; segment <= len(schema); segment++ {
		var unlocked []api.Threshold
		for _, number := range schema[:segment] {
			unlocked = append(unlocked, thresholds[number])
		}
		for i, r := range p.Rules {
			allowed := true
			for _, guard := range r.Guards {
				allowed = allowed && slices.Contains(unlocked, guard)
			}
			if allowed {
				list = append(list, Variable{CorrectFire, segment, i})
			}
			if allowed && plainHasFaulty(p) {
				list = append(list, Variable{FaultyFire, segment, i})
			}
		}
	}
	return list
}

// linearForm gives each variable its factor.
type linearForm func(v Variable) int

func plainParameters(l api.Linear) linearForm {
	return func(v Variable) int { return map[int]int{ParamN: l.N, ParamT: l.T, ParamF: l.F}[v.Kind] }
}

// plainMembers is the number of processes in a state after a segment.
func plainMembers(p api.Protocol, start, fire, state, segment int) linearForm {
	return func(v Variable) int {
		factor := 0
		if v.Kind == start && v.Index == state {
			factor++
		}
		if v.Kind == fire && v.Segment <= segment && p.Rules[v.Index].To == state {
			factor++
		}
		if v.Kind == fire && v.Segment <= segment && p.Rules[v.Index].From == state {
			factor--
		}
		return factor
	}
}

// plainSent is the number of messages sent before a segment.
func plainSent(p api.Protocol, fire, message, segment int) linearForm {
	return func(v Variable) int {
		if v.Kind == fire && v.Segment < segment && slices.Contains(p.Rules[v.Index].Send, message) {
			return 1
		}
		return 0
	}
}

// plainSum adds multiples: the factors and the forms alternate.
func plainSum(parts ...any) linearForm {
	return func(v Variable) int {
		sum := 0
		for i := 0; i < len(parts); i += 2 {
			sum += parts[i].(int) * parts[i+1].(linearForm)(v)
		}
		return sum
	}
}

// plainSystem collects rows.
type plainSystem struct {
	variables []Variable
	rows      []api.Row
}

func (s *plainSystem) add(form linearForm, constant int) {
	r := api.Row{Const: constant}
	for _, v := range s.variables {
		r.Coef = append(r.Coef, form(v))
	}
	s.rows = append(s.rows, r)
}

func (s *plainSystem) addLinear(l api.Linear) { s.add(plainParameters(l), l.C) }

func plainBuild(p api.Protocol, q api.Property, schema []int, number int) api.System {
	s := &plainSystem{variables: plainVariables(p, q, schema)}
	// 1.
	s.addLinear(api.Linear{N: 1, C: -1})
	s.addLinear(api.Linear{N: 1, T: -1})
	s.addLinear(api.Linear{N: 1, F: -1})
	if p.Fault == api.NoFault {
		s.addLinear(api.Linear{T: -1})
		s.addLinear(api.Linear{F: -1})
	}
	for _, l := range p.Resilience {
		s.addLinear(l)
	}
	// 2.
	one := func(kind int) linearForm {
		return func(v Variable) int {
			if v.Kind == kind {
				return 1
			}
			return 0
		}
	}
	s.add(plainSum(1, one(CorrectStart), -1, one(ParamN), 1, one(ParamF)), 0)
	s.add(plainSum(-1, one(CorrectStart), 1, one(ParamN), -1, one(ParamF)), 0)
	if plainHasFaulty(p) {
		s.add(plainSum(1, one(FaultyStart), -1, one(ParamF)), 0)
		s.add(plainSum(-1, one(FaultyStart), 1, one(ParamF)), 0)
	}
	// 3.
	for j := 0; j <= len(schema); j++ {
		if j > 0 {
			g := plainThresholds(p)[schema[j-1]]
			messages := plainSent(p, CorrectFire, g.Message, j)
			switch p.Fault {
			case api.Crash, api.Omission:
				messages = plainSum(1, messages, 1, plainSent(p, FaultyFire, g.Message, j))
			case api.Arbitrary:
				messages = plainSum(1, messages, 1, one(ParamF))
			}
			s.add(plainSum(g.Coef, messages, -1, plainParameters(g.Bound)), -g.Bound.C)
		}
		for state := range p.States {
			s.add(plainMembers(p, CorrectStart, CorrectFire, state, j), 0)
		}
		for state := range p.States {
			if plainHasFaulty(p) {
				s.add(plainMembers(p, FaultyStart, FaultyFire, state, j), 0)
			}
		}
	}
	// 4.
	if number >= 0 {
		plainCase(s, p, q, len(schema), number)
	}
	return api.System{Vars: len(s.variables), Rows: s.rows}
}

func plainCase(s *plainSystem, p api.Protocol, q api.Property, last, number int) {
	within := func(states []int) linearForm {
		var parts []any
		for _, state := range states {
			parts = append(parts, 1, plainMembers(p, CorrectStart, CorrectFire, state, last))
		}
		return plainSum(parts...)
	}
	if q.Kind == api.Never {
		for _, count := range q.Bad {
			s.add(within(count.States), -count.Least)
		}
		return
	}
	var outside []int
	for state := range p.States {
		if !slices.Contains(q.Goal, state) {
			outside = append(outside, state)
		}
	}
	s.add(within(outside), -1)
	for i, choice := range plainChoices(p, q)[number] {
		r := p.Rules[i]
		if choice == 0 {
			s.add(plainSum(-1, within([]int{r.From})), 0)
			continue
		}
		g := r.Guards[choice-1]
		messages := plainSent(p, CorrectFire, g.Message, last+1)
		if p.Fault == api.Crash {
			messages = plainSum(1, messages, 1, plainSent(p, FaultyFire, g.Message, last+1))
		}
		s.add(plainSum(1, plainParameters(g.Bound), -g.Coef, messages), g.Bound.C-1)
	}
}

func plainHolds(p api.Protocol, s api.Size, g api.Threshold, sent, faulty []int) bool {
	bound := g.Bound.C + g.Bound.N*s.N + g.Bound.T*s.T + g.Bound.F*s.F
	messages := sent[g.Message]
	if plainHasFaulty(p) {
		messages += faulty[g.Message]
	}
	if p.Fault == api.Arbitrary {
		messages += s.F
	}
	return g.Coef*messages >= bound
}

func plainUnlocked(p api.Protocol, s api.Size, c api.Config) []int {
	var list []int
	for i, g := range plainThresholds(p) {
		if plainHolds(p, s, g, c.Sent, c.Faulty) {
			list = append(list, i)
		}
	}
	return list
}

// plainStopped reports whether each correct process has for each rule that it could take a guard without enough certain messages.
func plainStopped(p api.Protocol, s api.Size, c api.Config) bool {
	for _, state := range c.States[:c.Correct] {
		for _, r := range p.Rules {
			forced := r.From == state
			for _, g := range r.Guards {
				certain := c.Sent[g.Message]
				if p.Fault == api.Crash {
					certain += c.Faulty[g.Message]
				}
				bound := g.Bound.C + g.Bound.N*s.N + g.Bound.T*s.T + g.Bound.F*s.F
				forced = forced && g.Coef*certain >= bound
			}
			if forced {
				return false
			}
		}
	}
	return true
}

func plainOrder(p api.Protocol) []int {
	var list []int
	for state := range p.States {
		for i, r := range p.Rules {
			if r.From == state {
				list = append(list, i)
			}
		}
	}
	return list
}

// plainAccelerate changes c. It returns false if a step fails.
func plainAccelerate(p api.Protocol, s api.Size, c *api.Config, rule, correct, faulty int) ([]api.Step, bool) {
	var steps []api.Step
	take := func(first, end int, sent []int) bool {
		for i := first; i < end; i++ {
			r := p.Rules[rule]
			if c.States[i] != r.From {
				continue
			}
			for _, g := range r.Guards {
				if !plainHolds(p, s, g, c.Sent, c.Faulty) {
					return false
				}
			}
			c.States[i] = r.To
			for _, m := range r.Send {
				sent[m]++
			}
			steps = append(steps, api.Step{Rule: rule, Process: i, Partner: -1})
			return true
		}
		return false
	}
	for range correct {
		if !take(0, c.Correct, c.Sent) {
			return nil, false
		}
	}
	for range faulty {
		if !take(c.Correct, len(c.States), c.Faulty) {
			return nil, false
		}
	}
	return steps, true
}

// plainConcretize needs a solution.
func plainConcretize(p api.Protocol, q api.Property, schema []int, point []int) (api.Size, api.Run, bool) {
	variables := plainVariables(p, q, schema)
	value := func(v Variable) int {
		if i := slices.Index(variables, v); i >= 0 {
			return point[i]
		}
		return 0
	}
	s := size(point[0], point[1], point[2])
	c := api.Config{Correct: s.N - s.F, Sent: make([]int, len(p.Messages)), Faulty: make([]int, len(p.Messages))}
	for _, kind := range []int{CorrectStart, FaultyStart} {
		for state := range p.States {
			for range value(Variable{Kind: kind, Index: state}) {
				c.States = append(c.States, state)
			}
		}
	}
	r := api.Run{Start: cloned(c)}
	for segment := 0; segment <= len(schema); segment++ {
		for _, rule := range plainOrder(p) {
			steps, ok := plainAccelerate(p, s, &c, rule, value(Variable{CorrectFire, segment, rule}), value(Variable{FaultyFire, segment, rule}))
			if !ok {
				return api.Size{}, api.Run{}, false
			}
			r.Steps = append(r.Steps, steps...)
		}
	}
	return s, r, true
}

// plainProject needs a run from an initial configuration.
func plainProject(p api.Protocol, q api.Property, s api.Size, r api.Run) ([]int, []int) {
	c := cloned(r.Start)
	var schema []int
	unlock := func() {
		for _, x := range plainUnlocked(p, s, c) {
			if !slices.Contains(schema, x) {
				schema = append(schema, x)
			}
		}
	}
	taken := map[Variable]int{{Kind: ParamN}: s.N, {Kind: ParamT}: s.T, {Kind: ParamF}: s.F}
	for i, state := range c.States {
		kind := CorrectStart
		if i >= c.Correct {
			kind = FaultyStart
		}
		taken[Variable{Kind: kind, Index: state}]++
	}
	unlock()
	for _, x := range r.Steps {
		kind, sent := CorrectFire, c.Sent
		if x.Process >= c.Correct {
			kind, sent = FaultyFire, c.Faulty
		}
		taken[Variable{kind, len(plainUnlocked(p, s, c)), x.Rule}]++
		c.States[x.Process] = p.Rules[x.Rule].To
		for _, m := range p.Rules[x.Rule].Send {
			sent[m]++
		}
		unlock()
	}
	var point []int
	for _, v := range plainVariables(p, q, schema) {
		point = append(point, taken[v])
	}
	return schema, point
}
