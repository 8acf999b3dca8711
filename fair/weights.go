package fair

import (
	"cmp"

	"familycheck/api"
)

// Weight returns the sum of the weights of all processes of the configuration e.
func Weight(p api.Protocol, weights []int, e api.Element) (int, api.Errno) {
	if errno := cmp.Or(monadicError(p), weightsError(p, weights), configError(p, e)); errno != api.OK {
		return 0, errno
	}
	sum := 0
	for state, count := range e.Counts {
		sum += count * weights[state]
	}
	return sum, api.OK
}

// The directions of a rule: how its change compares with 0, unless a response raises it.
const (
	lowering = -1
	neutral  = 0
	raising  = 1
)

// Raising reports whether a step with the rule may increase Weight: see P9.6.
func Raising(p api.Protocol, weights []int, rule int) (bool, api.Errno) {
	return hasDirection(p, weights, rule, raising)
}

// Lowering reports whether every step with the rule decreases Weight: see P9.6.
func Lowering(p api.Protocol, weights []int, rule int) (bool, api.Errno) {
	return hasDirection(p, weights, rule, lowering)
}

func hasDirection(p api.Protocol, weights []int, rule, want int) (bool, api.Errno) {
	if errno := cmp.Or(monadicError(p), weightsError(p, weights), ruleError(p, rule)); errno != api.OK {
		return false, errno
	}
	return direction(p.Rules[rule], weights) == want, api.OK
}

// direction returns whether the rule is raising, lowering or neutral.
func direction(r api.Rule, weights []int) int {
	change := weights[r.To] - weights[r.From]
	switch r.Kind {
	case api.Pair:
		change += weights[r.PartnerTo] - weights[r.PartnerFrom]
	case api.Broadcast:
		for state, to := range r.Response {
			if weights[to] > weights[state] {
				return raising
			}
		}
	}
	return cmp.Compare(change, 0)
}

func directions(rules []api.Rule, weights []int) []int {
	var list []int
	for _, r := range rules {
		list = append(list, direction(r, weights))
	}
	return list
}

// Moves reports whether a step with the rule can change the state of a process in the given one.
func Moves(p api.Protocol, rule, state int) (bool, api.Errno) {
	if errno := cmp.Or(monadicError(p), ruleError(p, rule)); errno != api.OK {
		return false, errno
	}
	if state < 0 || state >= len(p.States) {
		return false, api.ErrState
	}
	return moves(p.Rules[rule], state), api.OK
}

func moves(r api.Rule, state int) bool {
	switch r.Kind {
	case api.Pair:
		return state == r.From || state == r.PartnerFrom
	case api.Broadcast:
		return state == r.From || state != r.Response[state]
	}
	return state == r.From
}
