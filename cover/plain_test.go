package cover

import (
	"slices"

	"familycheck/api"
)

// The functions of this file follow the document's sentences one by one, without regard to work and without any of the package's code. Their arguments have no errors.

func plainValues(p api.Protocol) int {
	if len(p.Values) == 0 {
		return 1
	}
	return len(p.Values)
}

func plainLeq(a, b api.Element) bool {
	ok := a.Value == b.Value && len(a.Counts) == len(b.Counts)
	for i := range a.Counts {
		ok = ok && a.Counts[i] <= b.Counts[i]
	}
	return ok
}

func plainSame(a, b api.Element) bool {
	return a.Value == b.Value && slices.Equal(a.Counts, b.Counts)
}

func plainCompare(a, b api.Element) int {
	if a.Value != b.Value {
		return map[bool]int{true: -1, false: 1}[a.Value < b.Value]
	}
	for i := 0; ; i++ {
		switch {
		case i == len(a.Counts) && i == len(b.Counts):
			return 0
		case i == len(a.Counts):
			return -1
		case i == len(b.Counts):
			return 1
		case a.Counts[i] != b.Counts[i]:
			return map[bool]int{true: -1, false: 1}[a.Counts[i] < b.Counts[i]]
		}
	}
}

func plainContains(basis []api.Element, e api.Element) bool {
	return slices.ContainsFunc(basis, func(x api.Element) bool { return plainLeq(x, e) })
}

// plainSorted returns the elements in ascending order, each once.
func plainSorted(l []api.Element) []api.Element {
	var list []api.Element
	for _, x := range l {
		if !slices.ContainsFunc(list, func(y api.Element) bool { return plainSame(x, y) }) {
			list = append(list, x)
		}
	}
	slices.SortFunc(list, plainCompare)
	return list
}

func plainMinimal(l []api.Element) []api.Element {
	var list []api.Element
	for _, x := range l {
		isBelow := func(y api.Element) bool { return plainLeq(y, x) && !plainSame(x, y) }
		if !slices.ContainsFunc(l, isBelow) {
			list = append(list, x)
		}
	}
	return plainSorted(list)
}

// plainStates returns the state of each process.
func plainStates(e api.Element) []int {
	var states []int
	for state, count := range e.Counts {
		for range count {
			states = append(states, state)
		}
	}
	return states
}

func plainElement(p api.Protocol, value int, states []int) api.Element {
	e := api.Element{Value: value, Counts: make([]int, len(p.States))}
	for _, state := range states {
		e.Counts[state]++
	}
	return e
}

// plainOthers reports whether the other processes allow a Local rule.
func plainOthers(r api.Rule, states []int, process int) bool {
	exists, forall := len(r.Exists) == 0, true
	for i, state := range states {
		if i == process {
			continue
		}
		if slices.Contains(r.Exists, state) {
			exists = true
		}
		if len(r.Forall) > 0 && !slices.Contains(r.Forall, state) {
			forall = false
		}
	}
	return exists && forall
}

// plainStep returns the states after a step of a process, with a partner if the rule is a Pair.
func plainStep(r api.Rule, states []int, process, partner int) ([]int, bool) {
	if states[process] != r.From {
		return nil, false
	}
	next := slices.Clone(states)
	switch r.Kind {
	case api.Local:
		if !plainOthers(r, states, process) {
			return nil, false
		}
	case api.Pair:
		if partner == process || states[partner] != r.PartnerFrom {
			return nil, false
		}
		next[partner] = r.PartnerTo
	case api.Broadcast:
		for i, state := range states {
			next[i] = r.Response[state]
		}
	}
	next[process] = r.To
	return next, true
}

// plainPostRule returns what a step with the rule leads to from the configuration e.
func plainPostRule(p api.Protocol, rule int, e api.Element) []api.Element {
	r := p.Rules[rule]
	if r.Read != -1 && r.Read != e.Value {
		return nil
	}
	value := e.Value
	if r.Write != -1 {
		value = r.Write
	}
	var list []api.Element
	states := plainStates(e)
	for process := range states {
		for partner := range states {
			if next, ok := plainStep(r, states, process, partner); ok {
				list = append(list, plainElement(p, value, next))
			}
		}
	}
	return plainSorted(list)
}

func plainPost(p api.Protocol, e api.Element) []api.Element {
	var list []api.Element
	for rule := range p.Rules {
		list = append(list, plainPostRule(p, rule, e)...)
	}
	return plainSorted(list)
}

// plainElements returns the elements with from low to high processes, in ascending order.
func plainElements(p api.Protocol, low, high int) []api.Element {
	var list []api.Element
	var add func(e api.Element, total int)
	add = func(e api.Element, total int) {
		if len(e.Counts) == len(p.States) {
			if total >= low {
				list = append(list, cloned(e))
			}
			return
		}
		for count := 0; total+count <= high; count++ {
			add(api.Element{Value: e.Value, Counts: append(slices.Clone(e.Counts), count)}, total+count)
		}
	}
	for value := range plainValues(p) {
		add(api.Element{Value: value}, 0)
	}
	return list
}

func plainTotal(e api.Element) int {
	return len(plainStates(e))
}

// plainBefore has what each rule leads to from each element with so few processes.
type plainBefore struct {
	elements []api.Element
	post     [][][]api.Element // by rule and element
}

func newPlainBefore(p api.Protocol, most int) plainBefore {
	b := plainBefore{elements: plainElements(p, 0, most)}
	for rule := range p.Rules {
		var lists [][]api.Element
		for _, x := range b.elements {
			lists = append(lists, plainPostRule(p, rule, x))
		}
		b.post = append(b.post, lists)
	}
	return b
}

// of returns the minimal elements from which the rule leads in one step into the upward closure of e.
func (b plainBefore) of(rule int, e api.Element) []api.Element {
	var list []api.Element
	for i, x := range b.elements {
		if slices.ContainsFunc(b.post[rule][i], func(y api.Element) bool { return plainLeq(e, y) }) {
			list = append(list, x)
		}
	}
	return plainMinimal(list)
}

func plainIsBad(q api.Property, e api.Element) bool {
	for _, c := range q.Bad {
		found := 0
		for _, state := range plainStates(e) {
			if slices.Contains(c.States, state) {
				found++
			}
		}
		if found < c.Least {
			return false
		}
	}
	return true
}

func plainStarts(p api.Protocol, q api.Property) []int {
	if len(q.Start) > 0 {
		return q.Start
	}
	return p.Initial
}

// plainIsInitial reports whether e is the element of an initial configuration or has one above it.
func plainIsInitial(p api.Protocol, q api.Property, e api.Element) bool {
	for _, state := range plainStates(e) {
		if !slices.Contains(plainStarts(p, q), state) {
			return false
		}
	}
	return e.Value == 0
}

// plainDistances returns, for each element with from 1 to most processes, the smallest number of steps from it to a bad configuration; -1 if there is none.
func plainDistances(p api.Protocol, q api.Property, most int) ([]api.Element, []int) {
	list := plainElements(p, 1, most)
	distances := make([]int, len(list))
	post := make([][]int, len(list))
	for i, x := range list {
		distances[i] = -1
		if plainIsBad(q, x) {
			distances[i] = 0
		}
		for _, y := range plainPost(p, x) {
			place, _ := slices.BinarySearchFunc(list, y, plainCompare)
			post[i] = append(post[i], place)
		}
	}
	for round := 0; slices.Contains(distances, round); round++ {
		for i := range list {
			reaches := func(place int) bool { return distances[place] == round }
			if distances[i] < 0 && slices.ContainsFunc(post[i], reaches) {
				distances[i] = round + 1
			}
		}
	}
	return list, distances
}
