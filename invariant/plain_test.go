package invariant

import (
	"slices"

	"familycheck/api"
)

// The functions of this file follow the document's sentences one by one, without regard to work and without any of the package's code. Their arguments have no errors.

func plainValues(p api.Protocol) int {
	if len(p.Values) == 0 {
		return 1
	}
	return len(p.Values)
}

func plainSame(a, b api.Element) bool {
	return a.Value == b.Value && slices.Equal(a.Counts, b.Counts)
}

func plainCompare(a, b api.Element) int {
	if a.Value != b.Value {
		return map[bool]int{true: -1, false: 1}[a.Value < b.Value]
	}
	for i := 0; ; i++ {
		switch {
		case i == len(a.Counts) && i == len(b.Counts):
			return 0
		case i == len(a.Counts):
			return -1
		case i == len(b.Counts):
			return 1
		case a.Counts[i] != b.Counts[i]:
			return map[bool]int{true: -1, false: 1}[a.Counts[i] < b.Counts[i]]
		}
	}
}

// plainSorted returns the elements in ascending order, each once.
func plainSorted(l []api.Element) []api.Element {
	var list []api.Element
	for _, x := range l {
		if !slices.ContainsFunc(list, func(y api.Element) bool { return plainSame(x, y) }) {
			list = append(list, x)
		}
	}
	slices.SortFunc(list, plainCompare)
	return list
}

// plainStates returns the state of each process.
func plainStates(e api.Element) []int {
	var states []int
	for state, count := range e.Counts {
		for range count {
			states = append(states, state)
		}
	}
	return states
}

func plainElement(p api.Protocol, value int, states []int) api.Element {
	e := api.Element{Value: value, Counts: make([]int, len(p.States))}
	for _, state := range states {
		e.Counts[state]++
	}
	return e
}

// plainOthers reports whether the other processes allow a Local rule.
func plainOthers(r api.Rule, states []int, process int) bool {
	exists, forall := len(r.Exists) == 0, true
	for i, state := range states {
		if i == process {
			continue
		}
		if slices.Contains(r.Exists, state) {
			exists = true
		}
		if len(r.Forall) > 0 && !slices.Contains(r.Forall, state) {
			forall = false
		}
	}
	return exists && forall
}

// plainStep returns the states after a step of a process, with a partner if the rule is a Pair.
func plainStep(r api.Rule, states []int, process, partner int) ([]int, bool) {
	if states[process] != r.From {
		return nil, false
	}
	next := slices.Clone(states)
	switch r.Kind {
	case api.Local:
		if !plainOthers(r, states, process) {
			return nil, false
		}
	case api.Pair:
		if partner == process || states[partner] != r.PartnerFrom {
			return nil, false
		}
		next[partner] = r.PartnerTo
	case api.Broadcast:
		for i, state := range states {
			next[i] = r.Response[state]
		}
	}
	next[process] = r.To
	return next, true
}

// plainPostRule returns what a step with the rule leads to from the configuration e.
func plainPostRule(p api.Protocol, rule int, e api.Element) []api.Element {
	r := p.Rules[rule]
	if r.Read != -1 && r.Read != e.Value {
		return nil
	}
	value := e.Value
	if r.Write != -1 {
		value = r.Write
	}
	var list []api.Element
	states := plainStates(e)
	for process := range states {
		for partner := range states {
			if next, ok := plainStep(r, states, process, partner); ok {
				list = append(list, plainElement(p, value, next))
			}
		}
	}
	return plainSorted(list)
}

func plainTotal(e api.Element) int {
	return len(plainStates(e))
}

func plainIsBad(q api.Property, e api.Element) bool {
	for _, c := range q.Bad {
		found := 0
		for _, state := range plainStates(e) {
			if slices.Contains(c.States, state) {
				found++
			}
		}
		if found < c.Least {
			return false
		}
	}
	return true
}

func plainStarts(p api.Protocol, q api.Property) []int {
	if len(q.Start) > 0 {
		return q.Start
	}
	return p.Initial
}

// plainIsInitial reports whether the configuration e is initial.
func plainIsInitial(p api.Protocol, q api.Property, e api.Element) bool {
	for _, state := range plainStates(e) {
		if !slices.Contains(plainStarts(p, q), state) {
			return false
		}
	}
	return e.Value == 0
}

// plainSetError examines whether l is a set of indexes below count.
func plainSetError(l []int, count int) api.Errno {
	for _, x := range l {
		if x < 0 || x >= count {
			return api.ErrState
		}
	}
	for i := 1; i < len(l); i++ {
		if l[i-1] >= l[i] {
			return api.ErrArg
		}
	}
	return api.OK
}

func plainClauseError(p api.Protocol, c api.Clause) api.Errno {
	var list []api.Errno
	if len(c.Each) > 2 {
		list = append(list, api.ErrArg)
	}
	for _, states := range c.Each {
		list = append(list, plainSetError(states, len(p.States)))
		if len(states) == 0 {
			list = append(list, api.ErrArg)
		}
	}
	list = append(list, plainSetError(c.Values, len(p.Values)), plainSetError(c.Some, len(p.States)))
	for _, e := range list {
		if e != api.OK {
			return e
		}
	}
	return api.OK
}

// plainSituations returns all choices of different processes, one for each element of each.
func plainSituations(each [][]int, states []int) [][]int {
	list := [][]int{nil}
	for _, set := range each {
		var longer [][]int
		for _, chosen := range list {
			for process, state := range states {
				if slices.Contains(set, state) && !slices.Contains(chosen, process) {
					longer = append(longer, append(slices.Clone(chosen), process))
				}
			}
		}
		list = longer
	}
	return list
}

// plainHolds reports whether the clause holds in the configuration e.
func plainHolds(c api.Clause, e api.Element) bool {
	if len(c.Values) > 0 && !slices.Contains(c.Values, e.Value) {
		return true
	}
	states := plainStates(e)
	for _, chosen := range plainSituations(c.Each, states) {
		found := false
		for process, state := range states {
			found = found || slices.Contains(c.Some, state) && !slices.Contains(chosen, process)
		}
		if !found {
			return false
		}
	}
	return true
}

func plainAllHold(l []api.Clause, e api.Element) bool {
	for _, c := range l {
		if !plainHolds(c, e) {
			return false
		}
	}
	return true
}

func plainRank(l []api.Clause) int {
	rank := 0
	for _, c := range l {
		n := len(c.Each)
		if len(c.Some) > 0 {
			n++
		}
		if n > rank {
			rank = n
		}
	}
	return rank
}

// plainElements returns the elements with at least one process and at most so many in each state, in ascending order.
func plainElements(p api.Protocol, most int) []api.Element {
	var list []api.Element
	var add func(e api.Element)
	add = func(e api.Element) {
		if len(e.Counts) == len(p.States) {
			if plainTotal(e) > 0 {
				list = append(list, e)
			}
			return
		}
		for count := 0; count <= most; count++ {
			add(api.Element{Value: e.Value, Counts: append(slices.Clone(e.Counts), count)})
		}
	}
	for value := range plainValues(p) {
		add(api.Element{Value: value})
	}
	return list
}

// plainWorld has the elements with at most so many processes in each state, by their totals and then in ascending order, and what each rule leads to from them.
type plainWorld struct {
	elements []api.Element
	after    [][][]api.Element // by rule and element
}

func newPlainWorld(p api.Protocol, most int) plainWorld {
	w := plainWorld{elements: plainElements(p, most)}
	slices.SortStableFunc(w.elements, func(a, b api.Element) int { return plainTotal(a) - plainTotal(b) })
	for rule := range p.Rules {
		var lists [][]api.Element
		for _, e := range w.elements {
			lists = append(lists, plainPostRule(p, rule, e))
		}
		w.after = append(w.after, lists)
	}
	return w
}

func (w plainWorld) initialFailure(p api.Protocol, q api.Property, l []api.Clause) int {
	for i, c := range l {
		for _, e := range w.elements {
			if plainIsInitial(p, q, e) && !plainHolds(c, e) {
				return i
			}
		}
	}
	return -1
}

func (w plainWorld) stepFailure(rule int, l, assumed []api.Clause) (int, api.Element) {
	var models []int
	for k, e := range w.elements {
		if len(w.after[rule][k]) > 0 && plainAllHold(l, e) && plainAllHold(assumed, e) {
			models = append(models, k)
		}
	}
	for i, c := range l {
		for _, k := range models {
			if !plainHoldsInAll(c, w.after[rule][k]) {
				return i, w.elements[k]
			}
		}
	}
	return -1, api.Element{}
}

func plainHoldsInAll(c api.Clause, l []api.Element) bool {
	for _, e := range l {
		if !plainHolds(c, e) {
			return false
		}
	}
	return true
}

func (w plainWorld) badModel(q api.Property, l []api.Clause) (api.Element, bool) {
	for _, e := range w.elements {
		if plainIsBad(q, e) && plainAllHold(l, e) {
			return e, true
		}
	}
	return api.Element{}, false
}

func (w plainWorld) checkClauses(p api.Protocol, q api.Property, l, assumed []api.Clause) bool {
	ok := w.initialFailure(p, q, l) == -1
	for rule := range p.Rules {
		i, _ := w.stepFailure(rule, l, assumed)
		ok = ok && i == -1
	}
	_, found := w.badModel(q, slices.Concat(l, assumed))
	return ok && !found
}

func (w plainWorld) entails(l []api.Clause, c api.Clause) bool {
	for _, e := range w.elements {
		if plainAllHold(l, e) && !plainHolds(c, e) {
			return false
		}
	}
	return true
}

func (w plainWorld) reduce(l []api.Clause) []api.Clause {
	kept := slices.Clone(l)
	for i := len(kept) - 1; i >= 0; i-- {
		others := slices.Concat(kept[:i], kept[i+1:])
		if w.entails(others, kept[i]) {
			kept = others
		}
	}
	return kept
}

// strengthen removes the clauses that fail, again and again.
func (w plainWorld) strengthen(p api.Protocol, q api.Property, l, assumed []api.Clause) []api.Clause {
	kept := slices.Clone(l)
	for {
		fails := w.initialFailure(p, q, kept)
		for rule := range p.Rules {
			if fails == -1 {
				fails, _ = w.stepFailure(rule, kept, assumed)
			}
		}
		if fails == -1 {
			return kept
		}
		kept = slices.Delete(kept, fails, fails+1)
	}
}

func plainCandidates(p api.Protocol) []api.Clause {
	var list []api.Clause
	values := [][]int{{}}
	for value := range p.Values {
		values = append(values, []int{value})
	}
	for _, v := range values {
		if len(v) > 0 {
			list = append(list, api.Clause{Values: v})
		}
		for some := range p.States {
			list = append(list, api.Clause{Values: v, Some: []int{some}})
		}
	}
	for state := range p.States {
		for _, v := range values {
			list = append(list, api.Clause{Each: [][]int{{state}}, Values: v})
			for some := range p.States {
				list = append(list, api.Clause{Each: [][]int{{state}}, Values: v, Some: []int{some}})
			}
		}
	}
	for first := range p.States {
		for second := range p.States {
			for _, v := range values {
				if first <= second {
					list = append(list, api.Clause{Each: [][]int{{first}, {second}}, Values: v})
				}
			}
		}
	}
	return list
}

// plainReached returns the elements that are reachable from initial ones with from 1 to most processes.
func plainReached(p api.Protocol, q api.Property, most int) []api.Element {
	var list []api.Element
	for _, e := range plainElements(p, max(most, 0)) {
		if plainTotal(e) <= most && plainIsInitial(p, q, e) {
			list = append(list, e)
		}
	}
	for i := 0; i < len(list); i++ {
		for rule := range p.Rules {
			for _, next := range plainPostRule(p, rule, list[i]) {
				if !slices.ContainsFunc(list, func(e api.Element) bool { return plainSame(e, next) }) {
					list = append(list, next)
				}
			}
		}
	}
	return plainSorted(list)
}

func plainFilter(l []api.Clause, elements []api.Element) []api.Clause {
	var list []api.Clause
	for _, c := range l {
		if plainHoldsInAll(c, elements) {
			list = append(list, c)
		}
	}
	return list
}

// plainText writes a clause.
func plainText(p api.Protocol, c api.Clause) string {
	joined := func(names []string, set []int) string {
		text := ""
		for i, x := range set {
			if i > 0 {
				text += "|"
			}
			text += names[x]
		}
		return text
	}
	text := "all"
	for _, states := range c.Each {
		text += " " + joined(p.States, states)
	}
	if len(c.Values) > 0 {
		text += " value=" + joined(p.Values, c.Values)
	}
	if len(c.Some) > 0 {
		text += " some=" + joined(p.States, c.Some)
	}
	return text
}
