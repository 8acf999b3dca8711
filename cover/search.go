package cover

import (
	"slices"

	"familycheck/api"
	"familycheck/protocol"
	"familycheck/unfold"
)

// Result is the answer of Solve: see P5.10.
type Result struct {
	Verdict int
	Basis   []api.Element
	Least   int
	Rounds  int
}

// BadElements returns the minimal elements of the bad configurations in ascending order.
func BadElements(p api.Protocol, q api.Property) ([]api.Element, api.Errno) {
	if errno := Check(p, q); errno != api.OK {
		return nil, errno
	}
	return badElements(p, q), api.OK
}

func badElements(p api.Protocol, q api.Property) []api.Element {
	list := [][]int{make([]int, len(p.States))}
	for _, c := range q.Bad {
		list = raise(list, c.States, c.Least)
	}
	var values []int
	for v := range valueCount(p) {
		values = append(values, v)
	}
	return Minimize(withValues(list, values))
}

// Backward returns the basis B(k) of P5.9 and whether it is the last one.
func Backward(p api.Protocol, q api.Property, rounds int) ([]api.Element, bool, api.Errno) {
	basis, _, done, errno := backward(p, q, rounds)
	return basis, done, errno
}

// backward also returns k.
func backward(p api.Protocol, q api.Property, rounds int) ([]api.Element, int, bool, api.Errno) {
	if errno := Check(p, q); errno != api.OK {
		return nil, 0, false, errno
	}
	if rounds > api.MaxRounds {
		return nil, 0, false, api.ErrArg
	}
	basis := membersOf(badElements(p, q))
	if len(basis) > api.MaxBasis {
		return nil, 0, false, api.ErrLarge
	}
	for k := 0; ; k++ {
		next, errno := grow(p, basis)
		if errno != api.OK {
			return nil, 0, false, errno
		}
		if done := !slices.ContainsFunc(next, isNew); done || k >= rounds {
			return elementsOf(basis), k, done, api.OK
		}
		basis = next
	}
}

func isNew(m member) bool {
	return !m.explored
}

// grow returns the next basis. What leads to explored members has been added before. An element that is found again stays the explored one, because that comes first: so there are new members exactly if the basis has changed.
func grow(p api.Protocol, basis []member) ([]member, api.Errno) {
	var found []member
	all := slices.Clone(basis)
	for i, m := range basis {
		if m.explored {
			continue
		}
		list, errno := beforeAny(p, m.Element)
		if errno != api.OK {
			return nil, errno
		}
		found = append(found, membersOf(list)...)
		all[i].explored = true
	}
	all = minimal(append(all, found...))
	if len(all) > api.MaxBasis {
		return nil, api.ErrLarge
	}
	return all, api.OK
}

// Solve returns the verdict for all sizes that rounds of the search lead to.
func Solve(p api.Protocol, q api.Property, rounds int) (Result, api.Errno) {
	basis, k, done, errno := backward(p, q, rounds)
	if errno != api.OK {
		return Result{}, errno
	}
	if !done {
		return Result{Verdict: api.Open, Rounds: k}, api.OK
	}
	result := Result{Verdict: api.Holds, Basis: basis, Rounds: k}
	starts, _ := protocol.Starts(p, q)
	for _, e := range basis {
		if !isInitial(starts, e) {
			continue
		}
		if result.Verdict == api.Holds || Total(e) < result.Least {
			result.Verdict, result.Least = api.Violated, Total(e)
		}
	}
	return result, api.OK
}

// Cutoff returns the smallest number of processes from which on the verdict is the same, and the verdict; 0 and Open if it is not known.
func Cutoff(p api.Protocol, q api.Property, rounds int) (int, int, api.Errno) {
	result, errno := Solve(p, q, rounds)
	if result.Verdict == api.Holds {
		return 1, api.Holds, errno
	}
	return result.Least, result.Verdict, errno
}

// Trace returns a violation at the smallest size; false if Solve knows of none.
func Trace(p api.Protocol, q api.Property, rounds int) (api.Size, api.Run, bool, api.Errno) {
	result, errno := Solve(p, q, rounds)
	if errno != api.OK || result.Verdict != api.Violated {
		return api.Size{}, api.Run{}, false, errno
	}
	if result.Least > api.MaxProcesses {
		return api.Size{}, api.Run{}, false, api.ErrLarge
	}
	s := api.Size{N: result.Least}
	run, found, errno := unfold.Shortest(p, q, s)
	if errno != api.OK || !found {
		return api.Size{}, api.Run{}, false, errno
	}
	return s, run, true, api.OK
}
