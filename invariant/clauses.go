package invariant

import (
	"cmp"
	"slices"

	"familycheck/api"
	"familycheck/cover"
)

// mostEach is the number of processes that a clause chooses at most.
const mostEach = 2

// ValidClause returns the first error of c, a clause of p: see P8.2.
func ValidClause(p api.Protocol, c api.Clause) api.Errno {
	if errno := monadicError(p); errno != api.OK {
		return errno
	}
	return clauseError(p, c)
}

func clauseError(p api.Protocol, c api.Clause) api.Errno {
	if len(c.Each) > mostEach {
		return api.ErrArg
	}
	for _, states := range c.Each {
		if errno := setError(states, len(p.States)); errno != api.OK {
			return errno
		}
		if len(states) == 0 {
			return api.ErrArg
		}
	}
	return cmp.Or(setError(c.Values, len(p.Values)), setError(c.Some, len(p.States)))
}

// setError examines whether list is a set of indexes below count.
func setError(list []int, count int) api.Errno {
	ascending := true
	for i, x := range list {
		if x < 0 || x >= count {
			return api.ErrState
		}
		ascending = ascending && (i == 0 || list[i-1] < x)
	}
	if !ascending {
		return api.ErrArg
	}
	return api.OK
}

// listsError returns the first error of lists of clauses, one list after the other.
func listsError(p api.Protocol, lists ...[]api.Clause) api.Errno {
	for _, l := range lists {
		if len(l) > api.MaxClauses {
			return api.ErrLarge
		}
		for _, c := range l {
			if errno := clauseError(p, c); errno != api.OK {
				return errno
			}
		}
	}
	return api.OK
}

// Rank returns the largest number of processes that a clause of l speaks of.
func Rank(l []api.Clause) int {
	rank := 0
	for _, c := range l {
		processes := len(c.Each)
		if len(c.Some) > 0 {
			processes++
		}
		rank = max(rank, processes)
	}
	return rank
}

// CompareClause orders clauses: see P8.4.
func CompareClause(a, b api.Clause) int {
	return cmp.Or(
		cmp.Compare(len(a.Each), len(b.Each)),
		slices.CompareFunc(a.Each, b.Each, slices.Compare[[]int]),
		slices.Compare(a.Values, b.Values),
		slices.Compare(a.Some, b.Some),
	)
}

// HoldsIn reports whether c holds in the configuration e.
func HoldsIn(p api.Protocol, c api.Clause, e api.Element) (bool, api.Errno) {
	if errno := ValidClause(p, c); errno != api.OK {
		return false, errno
	}
	if !isConfiguration(p, e) {
		return false, api.ErrArg
	}
	return holds(c, e), api.OK
}

// isConfiguration reports whether e gives a configuration of p.
func isConfiguration(p api.Protocol, e api.Element) bool {
	return cover.ValidElement(p, e) == api.OK && cover.Total(e) > 0
}

// holds reports whether c holds in the configuration e.
func holds(c api.Clause, e api.Element) bool {
	if len(c.Values) > 0 && !slices.Contains(c.Values, e.Value) {
		return true
	}
	return crowdOf(e).always(c.Each, c.Some)
}

// allHold reports whether all clauses of l hold in the configuration e.
func allHold(l []api.Clause, e api.Element) bool {
	return !slices.ContainsFunc(l, func(c api.Clause) bool { return !holds(c, e) })
}

// copied returns a clause in new memory.
func copied(c api.Clause) api.Clause {
	next := api.Clause{Values: slices.Clone(c.Values), Some: slices.Clone(c.Some)}
	for _, states := range c.Each {
		next.Each = append(next.Each, slices.Clone(states))
	}
	return next
}
