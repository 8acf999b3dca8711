package invariant

import (
	"cmp"
	"slices"

	"familycheck/api"
	"familycheck/cover"
)

// mostCount is the largest number of processes in a state for which Elements lists the elements.
const mostCount = 8

// Elements returns the configurations with at most so many processes in each state, in ascending order.
func Elements(p api.Protocol, most int) ([]api.Element, api.Errno) {
	if errno := monadicError(p); errno != api.OK {
		return nil, errno
	}
	if most < 0 || most > mostCount {
		return nil, api.ErrArg
	}
	list := choices(len(p.States), most)[1:]
	values := max(len(p.Values), 1)
	if len(list)*values > api.MaxConfigs {
		return nil, api.ErrLarge
	}
	var all []api.Element
	for value := range values {
		for _, counts := range list {
			all = append(all, api.Element{Value: value, Counts: slices.Clone(counts)})
		}
	}
	return all, api.OK
}

// choices returns all lists of so many numbers from 0 to most, in ascending order. The first one has only zeros.
func choices(length, most int) [][]int {
	if length == 0 {
		return [][]int{nil}
	}
	var list [][]int
	for _, begin := range choices(length-1, most) {
		for last := range most + 1 {
			list = append(list, append(slices.Clone(begin), last))
		}
	}
	return list
}

// examples returns configurations that show what is so in all of them, those with fewer processes first. If more than rank + 2 processes are in a state, one of them can be left out: a step needs two of them at most, so clauses of this rank hold as before, also after the step.
func examples(p api.Protocol, rank int) []api.Element {
	list, _ := Elements(p, rank+2) // No error: ranks are at most 3, and four states with three values have 3885 such elements.
	slices.SortStableFunc(list, func(a, b api.Element) int { return cmp.Compare(cover.Total(a), cover.Total(b)) })
	return list
}
