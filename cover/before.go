package cover

import (
	"slices"

	"familycheck/api"
)

// PreRule returns the minimal elements from which the rule leads in one step into the upward closure of e.
func PreRule(p api.Protocol, rule int, e api.Element) ([]api.Element, api.Errno) {
	if errno := preError(p, e); errno != api.OK {
		return nil, errno
	}
	if !isRule(p, rule) {
		return nil, api.ErrRule
	}
	return before(p, p.Rules[rule], e)
}

// Pre returns the minimal elements from which a rule leads in one step into the upward closure of e.
func Pre(p api.Protocol, e api.Element) ([]api.Element, api.Errno) {
	if errno := preError(p, e); errno != api.OK {
		return nil, errno
	}
	return beforeAny(p, e)
}

func preError(p api.Protocol, e api.Element) api.Errno {
	if errno := coverError(p); errno != api.OK {
		return errno
	}
	return elementError(p, e)
}

func isRule(p api.Protocol, rule int) bool {
	return rule >= 0 && rule < len(p.Rules)
}

// before is PreRule without the errors of arguments.
func before(p api.Protocol, r api.Rule, e api.Element) ([]api.Element, api.Errno) {
	return limited(withValues(countsBefore(r, e.Counts), valuesBefore(p, r, e.Value)))
}

// beforeAny is Pre without the errors of arguments.
func beforeAny(p api.Protocol, e api.Element) ([]api.Element, api.Errno) {
	var all []api.Element
	for _, r := range p.Rules {
		list, errno := before(p, r, e)
		if errno != api.OK {
			return nil, errno
		}
		all = append(all, list...)
	}
	return limited(all)
}

// limited returns the minimal elements of list, or ErrLarge if they are too many or one is too large.
func limited(list []api.Element) ([]api.Element, api.Errno) {
	list = Minimize(list)
	tooLarge := func(e api.Element) bool { return !areCounts(e.Counts) }
	if len(list) > api.MaxBasis || slices.ContainsFunc(list, tooLarge) {
		return nil, api.ErrLarge
	}
	return list, api.OK
}

// withValues joins each of the counts with each of the values.
func withValues(counts [][]int, values []int) []api.Element {
	var list []api.Element
	for _, value := range values {
		for _, c := range counts {
			list = append(list, api.Element{Value: value, Counts: c})
		}
	}
	return list
}

// valuesBefore returns the values of the shared variable from which the rule leads to the given one.
func valuesBefore(p api.Protocol, r api.Rule, value int) []int {
	var list []int
	for v := range valueCount(p) {
		if reads(r, v) && written(r, v) == value {
			list = append(list, v)
		}
	}
	return list
}

// countsBefore returns the minimal counts from which the rule leads to at least the given ones.
func countsBefore(r api.Rule, counts []int) [][]int {
	needed := slices.Clone(counts)
	provide(needed, r.To)
	var others [][]int // the minimal counts of the other processes
	switch r.Kind {
	case api.Local:
		others = raise([][]int{needed}, r.Exists, min(len(r.Exists), 1))
	case api.Pair:
		provide(needed, r.PartnerTo)
		needed[r.PartnerFrom]++
		others = [][]int{needed}
	case api.Broadcast:
		others = responders(r, needed)
	}
	for _, c := range others {
		c[r.From]++
	}
	return others
}

// provide takes off what a process that comes into the state does for the needed counts.
func provide(needed []int, state int) {
	needed[state] = max(needed[state]-1, 0)
}

// responders returns the minimal counts of processes whose responses are at least as many as needed. None of them is above another, since they have equally many processes for each response. So a list that is already too long for a basis may be cut off: it stays too long, or becomes empty.
func responders(r api.Rule, needed []int) [][]int {
	list := [][]int{make([]int, len(needed))}
	for state, least := range needed {
		list = raise(list[:min(len(list), api.MaxBasis+1)], statesBefore(r, state), least)
	}
	return list
}

// statesBefore returns the states whose response is the given one.
func statesBefore(r api.Rule, response int) []int {
	var list []int
	for state, next := range r.Response {
		if next == response {
			list = append(list, state)
		}
	}
	return list
}

// raise returns, for each of the counts, the smallest ones above it with at least so many processes in the given states together.
func raise(list [][]int, states []int, least int) [][]int {
	var all [][]int
	for _, counts := range list {
		missing := least
		for _, state := range states {
			missing -= counts[state]
		}
		for _, split := range splits(max(missing, 0), len(states)) {
			raised := slices.Clone(counts)
			for i, state := range states {
				raised[state] += split[i]
			}
			all = append(all, raised)
		}
	}
	return all
}

// splits returns the ways to write amount as a sum of so many numbers. If there are too many for a basis, it returns only some of them, which are still too many. The few processes that a property demands have fewer ways.
func splits(amount, parts int) [][]int {
	switch {
	case parts == 0 && amount > 0:
		return nil
	case parts == 0:
		return [][]int{nil}
	case parts == 1:
		return [][]int{{amount}}
	}
	var all [][]int
	for first := 0; first <= amount && len(all) <= api.MaxBasis; first++ {
		for _, rest := range splits(amount-first, parts-1) {
			all = append(all, slices.Concat([]int{first}, rest))
		}
	}
	return all
}
