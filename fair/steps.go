package fair

import (
	"cmp"
	"slices"

	"familycheck/api"
	"familycheck/cover"
)

// Enabled reports whether a step with the rule is enabled in a configuration that a represents.
func Enabled(p api.Protocol, rule int, a api.Element) (bool, api.Errno) {
	list, errno := Post(p, rule, a)
	return len(list) > 0, errno
}

// Post returns the abstract states to which a step with the rule leads from the configurations that a represents.
func Post(p api.Protocol, rule int, a api.Element) ([]api.Element, api.Errno) {
	if errno := cmp.Or(monadicError(p), ruleError(p, rule), stateError(p, a)); errno != api.OK {
		return nil, errno
	}
	return after(p.Rules[rule], a), api.OK
}

// after is Post without errors. An enabled step leads somewhere, so there are none exactly if the rule is not enabled.
func after(r api.Rule, a api.Element) []api.Element {
	if r.Read >= 0 && r.Read != a.Value {
		return nil
	}
	value := a.Value
	if r.Write >= 0 {
		value = r.Write
	}
	var list []api.Element
	for _, others := range crowdOf(a).without(r.From) {
		for _, next := range others.afterStep(r) {
			next = next.with(r.To, 1)
			list = append(list, api.Element{Value: value, Counts: slices.Clone(next[:len(a.Counts)])})
		}
	}
	slices.SortFunc(list, cover.Compare)
	return slices.CompactFunc(list, func(a, b api.Element) bool { return cover.Compare(a, b) == 0 })
}

// crowd has the number of processes in each state, at most many. It is an array, so that a changed copy leaves the other one as it is.
type crowd [api.MaxStates]int

func crowdOf(a api.Element) crowd {
	var c crowd
	copy(c[:], a.Counts)
	return c
}

// with returns the crowd with so many more processes in the state.
func (c crowd) with(state, count int) crowd {
	c[state] = min(c[state]+count, many)
	return c
}

// without returns what the crowd may be without one process of the state; none if no process is in it.
func (c crowd) without(state int) []crowd {
	left := [many + 1][]int{{}, {0}, {1, many}} // by the number of processes that were there
	var list []crowd
	for _, count := range left[c[state]] {
		c[state] = count
		list = append(list, c)
	}
	return list
}

// afterStep returns what the other processes may be after a step with the rule; none if they do not allow it.
func (c crowd) afterStep(r api.Rule) []crowd {
	switch r.Kind {
	case api.Pair:
		list := c.without(r.PartnerFrom)
		for i, others := range list {
			list[i] = others.with(r.PartnerTo, 1)
		}
		return list
	case api.Broadcast:
		var next crowd
		for state, to := range r.Response {
			next = next.with(to, c[state])
		}
		return []crowd{next}
	}
	if !c.allows(r) {
		return nil
	}
	return []crowd{c}
}

// allows reports whether the other processes are as a Local rule demands.
func (c crowd) allows(r api.Rule) bool {
	isIn := func(state int) bool { return c[state] > 0 }
	exists := len(r.Exists) == 0 || slices.ContainsFunc(r.Exists, isIn)
	forall := len(r.Forall) == 0 || isWithin(c[:], r.Forall)
	return exists && forall
}
