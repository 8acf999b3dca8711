package fair

import (
	"cmp"
	"slices"

	"familycheck/api"
	"familycheck/cover"
	"familycheck/protocol"
)

// many is the count that stands for two or more processes.
const many = 2

// ValidState returns ErrArg if a is not an abstract state of p.
func ValidState(p api.Protocol, a api.Element) api.Errno {
	return cmp.Or(monadicError(p), stateError(p, a))
}

// Abstract returns the abstract state of the configuration e.
func Abstract(p api.Protocol, e api.Element) (api.Element, api.Errno) {
	if errno := cmp.Or(monadicError(p), configError(p, e)); errno != api.OK {
		return api.Element{}, errno
	}
	return abstract(e), api.OK
}

func abstract(e api.Element) api.Element {
	a := api.Element{Value: e.Value, Counts: slices.Clone(e.Counts)}
	for state, count := range a.Counts {
		a.Counts[state] = min(count, many)
	}
	return a
}

// Represents reports whether a is the abstract state of the configuration e.
func Represents(p api.Protocol, a, e api.Element) (bool, api.Errno) {
	if errno := cmp.Or(ValidState(p, a), configError(p, e)); errno != api.OK {
		return false, errno
	}
	return cover.Compare(a, abstract(e)) == 0, api.OK
}

// Initial returns the abstract states of the initial configurations of all sizes in ascending order.
func Initial(p api.Protocol, q api.Property) ([]api.Element, api.Errno) {
	if errno := Check(p, q); errno != api.OK {
		return nil, errno
	}
	return initial(p, q), api.OK
}

func initial(p api.Protocol, q api.Property) []api.Element {
	starts, _ := protocol.Starts(p, q)
	var list []api.Element
	for _, counts := range choices(len(p.States), many)[1:] {
		if isWithin(counts, starts) {
			list = append(list, api.Element{Counts: counts})
		}
	}
	return list
}

// choices returns all lists of so many numbers from 0 to most, in ascending order. The first one has only zeros.
func choices(length, most int) [][]int {
	list := [][]int{nil}
	for range length {
		var longer [][]int
		for _, begin := range list {
			for last := range most + 1 {
				longer = append(longer, append(slices.Clone(begin), last))
			}
		}
		list = longer
	}
	return list
}

// isWithin reports whether all processes are in the states.
func isWithin(counts, states []int) bool {
	for state, count := range counts {
		if count > 0 && !slices.Contains(states, state) {
			return false
		}
	}
	return true
}

// Reached reports whether all processes of a are in states of the goal.
func Reached(p api.Protocol, q api.Property, a api.Element) (bool, api.Errno) {
	if errno := cmp.Or(kindError(p, q, api.Eventually), stateError(p, a)); errno != api.OK {
		return false, errno
	}
	return isWithin(a.Counts, q.Goal), api.OK
}
