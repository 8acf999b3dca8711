package fair

import (
	"slices"

	"familycheck/api"
)

// The functions of this file follow the document's sentences one by one, without regard to work and without any of the package's code. Their arguments have no errors.

func plainValues(p api.Protocol) int {
	if len(p.Values) == 0 {
		return 1
	}
	return len(p.Values)
}

func plainSame(a, b api.Element) bool {
	return a.Value == b.Value && slices.Equal(a.Counts, b.Counts)
}

func plainHas(l []api.Element, e api.Element) bool {
	return slices.ContainsFunc(l, func(x api.Element) bool { return plainSame(x, e) })
}

func plainCompare(a, b api.Element) int {
	if a.Value != b.Value {
		return map[bool]int{true: -1, false: 1}[a.Value < b.Value]
	}
	for i := 0; ; i++ {
		switch {
		case i == len(a.Counts) && i == len(b.Counts):
			return 0
		case i == len(a.Counts):
			return -1
		case i == len(b.Counts):
			return 1
		case a.Counts[i] != b.Counts[i]:
			return map[bool]int{true: -1, false: 1}[a.Counts[i] < b.Counts[i]]
		}
	}
}

// plainSorted returns the elements in ascending order, each once.
func plainSorted(l []api.Element) []api.Element {
	var list []api.Element
	for _, x := range l {
		if !plainHas(list, x) {
			list = append(list, x)
		}
	}
	slices.SortFunc(list, plainCompare)
	return list
}

// plainStates returns the state of each process.
func plainStates(e api.Element) []int {
	var states []int
	for state, count := range e.Counts {
		for range count {
			states = append(states, state)
		}
	}
	return states
}

func plainElement(p api.Protocol, value int, states []int) api.Element {
	e := api.Element{Value: value, Counts: make([]int, len(p.States))}
	for _, state := range states {
		e.Counts[state]++
	}
	return e
}

// plainOthers reports whether the other processes allow a Local rule.
func plainOthers(r api.Rule, states []int, process int) bool {
	exists, forall := len(r.Exists) == 0, true
	for i, state := range states {
		if i == process {
			continue
		}
		if slices.Contains(r.Exists, state) {
			exists = true
		}
		if len(r.Forall) > 0 && !slices.Contains(r.Forall, state) {
			forall = false
		}
	}
	return exists && forall
}

// plainStep returns the states after a step of a process, with a partner if the rule is a Pair.
func plainStep(r api.Rule, states []int, process, partner int) ([]int, bool) {
	if states[process] != r.From {
		return nil, false
	}
	next := slices.Clone(states)
	switch r.Kind {
	case api.Local:
		if !plainOthers(r, states, process) {
			return nil, false
		}
	case api.Pair:
		if partner == process || states[partner] != r.PartnerFrom {
			return nil, false
		}
		next[partner] = r.PartnerTo
	case api.Broadcast:
		for i, state := range states {
			next[i] = r.Response[state]
		}
	}
	next[process] = r.To
	return next, true
}

// plainSteps calls use with the states after each step with the rule from the configuration e, and with the next value.
func plainSteps(p api.Protocol, rule int, e api.Element, use func(before, after []int, value int)) {
	r := p.Rules[rule]
	if r.Read != -1 && r.Read != e.Value {
		return
	}
	value := e.Value
	if r.Write != -1 {
		value = r.Write
	}
	states := plainStates(e)
	for process := range states {
		for partner := range states {
			if next, ok := plainStep(r, states, process, partner); ok {
				use(states, next, value)
			}
		}
	}
}

// plainPostRule returns what a step with the rule leads to from the configuration e.
func plainPostRule(p api.Protocol, rule int, e api.Element) []api.Element {
	var list []api.Element
	plainSteps(p, rule, e, func(_, after []int, value int) { list = append(list, plainElement(p, value, after)) })
	return plainSorted(list)
}

// plainElements returns the elements with at least one process and at most so many in each state, in ascending order.
func plainElements(p api.Protocol, most int) []api.Element {
	var list []api.Element
	var add func(e api.Element)
	add = func(e api.Element) {
		if len(e.Counts) == len(p.States) {
			if len(plainStates(e)) > 0 {
				list = append(list, e)
			}
			return
		}
		for count := 0; count <= most; count++ {
			add(api.Element{Value: e.Value, Counts: append(slices.Clone(e.Counts), count)})
		}
	}
	for value := range plainValues(p) {
		add(api.Element{Value: value})
	}
	return list
}

func plainAbstract(e api.Element) api.Element {
	a := api.Element{Value: e.Value}
	for _, count := range e.Counts {
		switch {
		case count > 2:
			a.Counts = append(a.Counts, 2)
		default:
			a.Counts = append(a.Counts, count)
		}
	}
	return a
}

// plainRepresented returns the configurations that a represents in which no state has more than most processes.
func plainRepresented(a api.Element, most int) []api.Element {
	list := []api.Element{{Value: a.Value}}
	for _, count := range a.Counts {
		var longer []api.Element
		for _, e := range list {
			last := count
			if count == 2 {
				last = most
			}
			for c := count; c <= last; c++ {
				longer = append(longer, api.Element{Value: a.Value, Counts: append(slices.Clone(e.Counts), c)})
			}
		}
		list = longer
	}
	return list
}

func plainStarts(p api.Protocol, q api.Property) []int {
	if len(q.Start) > 0 {
		return q.Start
	}
	return p.Initial
}

// plainInitial returns the abstract states of the initial configurations with at most three processes in each state.
func plainInitial(p api.Protocol, q api.Property) []api.Element {
	var list []api.Element
	for _, e := range plainElements(p, 3) {
		initial := e.Value == 0
		for _, state := range plainStates(e) {
			initial = initial && slices.Contains(plainStarts(p, q), state)
		}
		if initial {
			list = append(list, plainAbstract(e))
		}
	}
	return plainSorted(list)
}

func plainIsReached(q api.Property, a api.Element) bool {
	for state, count := range a.Counts {
		if count > 0 && !slices.Contains(q.Goal, state) {
			return false
		}
	}
	return true
}

func plainIsBad(q api.Property, e api.Element) bool {
	for _, c := range q.Bad {
		found := 0
		for _, state := range plainStates(e) {
			if slices.Contains(c.States, state) {
				found++
			}
		}
		if found < c.Least {
			return false
		}
	}
	return true
}

func plainChange(r api.Rule, weights []int) int {
	change := weights[r.To] - weights[r.From]
	if r.Kind == api.Pair {
		change += weights[r.PartnerTo] - weights[r.PartnerFrom]
	}
	return change
}

func plainRaising(r api.Rule, weights []int) bool {
	if plainChange(r, weights) > 0 {
		return true
	}
	if r.Kind == api.Broadcast {
		for x := range r.Response {
			if weights[r.Response[x]] > weights[x] {
				return true
			}
		}
	}
	return false
}

func plainLowering(r api.Rule, weights []int) bool {
	return !plainRaising(r, weights) && plainChange(r, weights) < 0
}

func plainNeutral(r api.Rule, weights []int) bool {
	return !plainRaising(r, weights) && !plainLowering(r, weights)
}

func plainMoves(r api.Rule, state int) bool {
	return state == r.From || r.Kind == api.Pair && state == r.PartnerFrom || r.Kind == api.Broadcast && r.Response[state] != state
}

// plainWorld has the abstract states of a family in ascending order, and for each rule and each of them what the rule leads to.
type plainWorld struct {
	p      api.Protocol
	states []api.Element
	post   [][][]api.Element
}

// newPlainWorld examines the configurations with at most so many processes in each state.
func newPlainWorld(p api.Protocol, most int) plainWorld {
	w := plainWorld{p: p, states: plainElements(p, 2)}
	for rule := range p.Rules {
		var all [][]api.Element
		for _, a := range w.states {
			var list []api.Element
			for _, e := range plainRepresented(a, most) {
				for _, next := range plainPostRule(p, rule, e) {
					list = append(list, plainAbstract(next))
				}
			}
			all = append(all, plainSorted(list))
		}
		w.post = append(w.post, all)
	}
	return w
}

// after returns what the rule leads to from the abstract state a.
func (w plainWorld) after(rule int, a api.Element) []api.Element {
	for i, x := range w.states {
		if plainSame(x, a) {
			return w.post[rule][i]
		}
	}
	panic("no abstract state")
}

// closure returns the smallest set that contains those of list that are not reached, and with each state all that are not reached of those to which the rules lead.
func (w plainWorld) closure(q api.Property, list []api.Element, rules []int) []api.Element {
	var set []api.Element
	add := func(list []api.Element) {
		for _, a := range list {
			if (q.Kind == api.Never || !plainIsReached(q, a)) && !plainHas(set, a) {
				set = append(set, a)
			}
		}
	}
	add(list)
	for i := 0; i < len(set); i++ {
		for _, rule := range rules {
			add(w.after(rule, set[i]))
		}
	}
	return plainSorted(set)
}

func (w plainWorld) reach(q api.Property) []api.Element {
	var rules []int
	for rule := range w.p.Rules {
		rules = append(rules, rule)
	}
	return w.closure(q, plainInitial(w.p, q), rules)
}

// safe examines the bad configurations with at most four processes in each state.
func (w plainWorld) safe(q api.Property) bool {
	for _, a := range w.reach(q) {
		for _, e := range plainRepresented(a, 4) {
			if plainIsBad(q, e) {
				return false
			}
		}
	}
	return true
}

// helpsNow reports whether the rule is lowering and enabled in a, and the neutral rules that are enabled there move none of its processes.
func (w plainWorld) helpsNow(weights []int, rule int, a api.Element) bool {
	r := w.p.Rules[rule]
	ok := plainLowering(r, weights) && len(w.after(rule, a)) > 0
	for x := range w.p.Rules {
		if plainNeutral(w.p.Rules[x], weights) && len(w.after(x, a)) > 0 && plainMoves(w.p.Rules[x], r.From) {
			ok = false
		}
	}
	return ok
}

// isHelpful reports whether the rule helps in all states to which neutral rules lead from a, one after another.
func (w plainWorld) isHelpful(q api.Property, weights []int, rule int, a api.Element) bool {
	var rules []int
	for x := range w.p.Rules {
		if plainNeutral(w.p.Rules[x], weights) {
			rules = append(rules, x)
		}
	}
	for _, b := range w.closure(q, []api.Element{a}, rules) {
		if !w.helpsNow(weights, rule, b) {
			return false
		}
	}
	return true
}

func (w plainWorld) helpful(q api.Property, weights []int) [][]int {
	var all [][]int
	for _, a := range w.reach(q) {
		var list []int
		for rule := range w.p.Rules {
			if w.isHelpful(q, weights, rule, a) {
				list = append(list, rule)
			}
		}
		all = append(all, list)
	}
	return all
}

func (w plainWorld) checkWeights(q api.Property, weights []int) bool {
	for _, a := range w.reach(q) {
		for rule, r := range w.p.Rules {
			if len(w.after(rule, a)) > 0 && plainRaising(r, weights) {
				return false
			}
		}
	}
	for _, list := range w.helpful(q, weights) {
		if len(list) == 0 {
			return false
		}
	}
	return true
}

// findWeights counts upward with as many digits as there are states.
func (w plainWorld) findWeights(q api.Property, most int) ([]int, bool) {
	weights := make([]int, len(w.p.States))
	for {
		if w.checkWeights(q, weights) {
			return weights, true
		}
		i := len(weights) - 1
		for i >= 0 && weights[i] == most {
			weights[i] = 0
			i--
		}
		if i < 0 {
			return nil, false
		}
		weights[i]++
	}
}
