package invariant

import (
	"slices"

	"familycheck/api"
)

// crowd has the number of processes in each state. It is an array, so that a changed copy leaves the other one as it is.
type crowd [api.MaxStates]int

func crowdOf(e api.Element) crowd {
	var c crowd
	copy(c[:], e.Counts)
	return c
}

// without returns the crowd without one process of the state; false if there is none.
func (c crowd) without(state int) (crowd, bool) {
	if c[state] == 0 {
		return c, false
	}
	c[state]--
	return c, true
}

// has reports whether a process is in one of the states.
func (c crowd) has(states []int) bool {
	return slices.ContainsFunc(states, func(state int) bool { return c[state] > 0 })
}

// isWithin reports whether all processes are in the states.
func (c crowd) isWithin(states []int) bool {
	for state, count := range c {
		if count > 0 && !slices.Contains(states, state) {
			return false
		}
	}
	return true
}

// always reports whether a process in a state of some is left however one process is chosen for each set of states.
func (c crowd) always(each [][]int, some []int) bool {
	if len(each) == 0 {
		return c.has(some)
	}
	for _, state := range each[0] {
		if others, ok := c.without(state); ok && !others.always(each[1:], some) {
			return false
		}
	}
	return true
}

// local returns the other processes after a step with a Local rule; false if they do not allow it.
func (c crowd) local(r api.Rule) (crowd, bool) {
	exists := len(r.Exists) == 0 || c.has(r.Exists)
	forall := len(r.Forall) == 0 || c.isWithin(r.Forall)
	return c, exists && forall
}

// pair returns the other processes after a step with a Pair rule; false if there is no partner.
func (c crowd) pair(r api.Rule) (crowd, bool) {
	next, ok := c.without(r.PartnerFrom)
	next[r.PartnerTo]++
	return next, ok
}

// broadcast returns the other processes after a step with a Broadcast rule.
func (c crowd) broadcast(r api.Rule) (crowd, bool) {
	var next crowd
	for state, to := range r.Response {
		next[to] += c[state]
	}
	return next, true
}

// effect returns the method that gives what a step of the kind of rule makes of the other processes.
func effect(kind int) func(crowd, api.Rule) (crowd, bool) {
	switch kind {
	case api.Pair:
		return crowd.pair
	case api.Broadcast:
		return crowd.broadcast
	}
	return crowd.local
}

// step returns the configuration after a step with the rule from e; false if there is no step. Processes in the same state differ in nothing, so all steps lead to the same.
func step(r api.Rule, e api.Element) (api.Element, bool) {
	others, ok := crowdOf(e).without(r.From)
	if !ok || r.Read >= 0 && r.Read != e.Value {
		return api.Element{}, false
	}
	next, ok := effect(r.Kind)(others, r)
	if !ok {
		return api.Element{}, false
	}
	next[r.To]++
	value := e.Value
	if r.Write >= 0 {
		value = r.Write
	}
	return api.Element{Value: value, Counts: slices.Clone(next[:len(e.Counts)])}, true
}
