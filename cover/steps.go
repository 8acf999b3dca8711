package cover

import (
	"slices"

	"familycheck/api"
)

// Post returns what one step leads to from the configuration e.
func Post(p api.Protocol, e api.Element) ([]api.Element, api.Errno) {
	if errno := ValidElement(p, e); errno != api.OK {
		return nil, errno
	}
	var list []api.Element
	for _, r := range p.Rules {
		if next, ok := after(r, e); ok {
			list = append(list, next)
		}
	}
	slices.SortFunc(list, Compare)
	return slices.CompactFunc(list, func(a, b api.Element) bool { return Compare(a, b) == 0 }), api.OK
}

// after returns what the rule leads to from the configuration e; false if it is not enabled. Processes in the same state differ in nothing, so there is one such element at most.
func after(r api.Rule, e api.Element) (api.Element, bool) {
	counts := slices.Clone(e.Counts)
	if !reads(r, e.Value) || !leave(counts, r.From) {
		return api.Element{}, false
	}
	// Now the counts are those of the other processes.
	switch r.Kind {
	case api.Local:
		if !othersFit(r, counts) {
			return api.Element{}, false
		}
	case api.Pair:
		if !leave(counts, r.PartnerFrom) {
			return api.Element{}, false
		}
		counts[r.PartnerTo]++
	case api.Broadcast:
		counts = responses(r, counts)
	}
	counts[r.To]++
	return api.Element{Value: written(r, e.Value), Counts: counts}, true
}

// leave removes a process from a state; false if there is none.
func leave(counts []int, state int) bool {
	if counts[state] == 0 {
		return false
	}
	counts[state]--
	return true
}

// othersFit reports whether the other processes are as a Local rule demands.
func othersFit(r api.Rule, others []int) bool {
	exists := len(r.Exists) == 0
	for state, count := range others {
		if count > 0 && len(r.Forall) > 0 && !slices.Contains(r.Forall, state) {
			return false
		}
		exists = exists || count > 0 && slices.Contains(r.Exists, state)
	}
	return exists
}

func responses(r api.Rule, others []int) []int {
	counts := make([]int, len(others))
	for state, count := range others {
		counts[r.Response[state]] += count
	}
	return counts
}

// reads reports whether the rule may be applied at a value of the shared variable.
func reads(r api.Rule, value int) bool {
	return r.Read < 0 || r.Read == value
}

// written returns the value after the rule.
func written(r api.Rule, value int) int {
	if r.Write < 0 {
		return value
	}
	return r.Write
}
