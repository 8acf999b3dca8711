package invariant

import (
	"slices"

	"familycheck/api"
	"familycheck/cover"
	"familycheck/unfold"
)

// mostUnfolded is the largest size from which clauses are found.
const mostUnfolded = 6

// Candidates returns all clauses with single states and values, in the order of P8.12.
func Candidates(p api.Protocol) ([]api.Clause, api.Errno) {
	if errno := monadicError(p); errno != api.OK {
		return nil, errno
	}
	states := len(p.States)
	list := candidates(p, states)
	for state := range states {
		list = append(list, candidates(p, states, state)...)
	}
	for first := range states {
		for second := first; second < states; second++ {
			list = append(list, candidates(p, 0, first, second)...)
		}
	}
	return list, api.OK
}

// candidates returns the candidates with these states in Each and one of the first some states, or none, in Some. The one that would never hold is left out.
func candidates(p api.Protocol, some int, each ...int) []api.Clause {
	var list []api.Clause
	for value := -1; value < len(p.Values); value++ {
		for state := -1; state < some; state++ {
			if value < 0 && state < 0 && len(each) == 0 {
				continue
			}
			c := api.Clause{Values: single(value), Some: single(state)}
			for _, x := range each {
				c.Each = append(c.Each, single(x))
			}
			list = append(list, c)
		}
	}
	return list
}

// single returns the set with one index; the empty set for -1.
func single(index int) []int {
	if index < 0 {
		return nil
	}
	return []int{index}
}

// ReachedElements returns the elements of all configurations that are reachable with up to so many processes, in ascending order.
func ReachedElements(p api.Protocol, q api.Property, most int) ([]api.Element, api.Errno) {
	if errno := Check(p, q); errno != api.OK {
		return nil, errno
	}
	if most > mostUnfolded {
		return nil, api.ErrArg
	}
	var list []api.Element
	for n := 1; n <= most; n++ {
		configs, errno := unfold.Reach(p, q, api.Size{N: n})
		if errno != api.OK {
			return nil, errno
		}
		for _, c := range configs {
			e, _ := cover.Abstract(p, c)
			list = append(list, e)
		}
	}
	slices.SortFunc(list, cover.Compare) // No element is there twice: configurations in canonical form differ in it.
	return list, api.OK
}

// Filter returns the clauses of l that hold in all of elements, in their order.
func Filter(p api.Protocol, l []api.Clause, elements []api.Element) ([]api.Clause, api.Errno) {
	if errno := monadicError(p); errno != api.OK {
		return nil, errno
	}
	if errno := listsError(p, l); errno != api.OK {
		return nil, errno
	}
	for _, e := range elements {
		if !isConfiguration(p, e) {
			return nil, api.ErrArg
		}
	}
	var list []api.Clause
	for _, c := range l {
		if !failsIn(c, elements) {
			list = append(list, copied(c))
		}
	}
	return list, api.OK
}

// Generalize returns clauses that hold in all reachable configurations of all sizes; the sizes with up to so many processes only choose the candidates.
func Generalize(p api.Protocol, q api.Property, most int) ([]api.Clause, api.Errno) {
	reached, errno := ReachedElements(p, q, most)
	if errno != api.OK {
		return nil, errno
	}
	all, _ := Candidates(p)
	list, _ := Filter(p, all, reached)
	return Strengthen(p, q, list, nil)
}

// Prove returns Holds and clauses that CheckClauses accepts, or Open.
func Prove(p api.Protocol, q api.Property, most int) (int, []api.Clause, api.Errno) {
	list, errno := Generalize(p, q, most)
	if errno != api.OK {
		return api.Open, nil, errno
	}
	if _, found, _ := BadModel(p, q, list); found {
		return api.Open, nil, api.OK
	}
	proof, _ := Reduce(p, list)
	return api.Holds, proof, api.OK
}
