package tree

import (
	"testing"

	"familycheck/api"
)

// tower has a state for each height: only trees all of whose paths are equally long can have one. The heights that are accepted are given.
func tower(states int, accept ...int) api.TreeAutomaton {
	a := api.TreeAutomaton{Letters: 1, States: states, Accept: accept, Leaves: []api.Leaf{{}}}
	for i := range states - 1 {
		a.Branches = append(a.Branches, api.Branch{First: i, Second: i, To: i + 1})
	}
	return a
}

// P7.5: the smallest trees, up to 4095 nodes, and none.
func TestWitness(t *testing.T) {
	long := tower(12, 11)                                                                                                                                                                                           // 4095 nodes
	longer := api.TreeAutomaton{Letters: 1, States: 14, Accept: ints(13), Leaves: long.Leaves, Branches: append(long.Branches, api.Branch{First: 11, Second: 0, To: 13}, api.Branch{First: 0, Second: 11, To: 13})} // 4097
	// Beside it there is a smaller one, made from the same state in another way.
	other := cloned(longer)
	other.Branches = append(other.Branches, api.Branch{First: 10, Second: 3, To: 12}, api.Branch{First: 12, Second: 12, To: 13}) // 2047 + 15 + 1 = 2063, and 4127
	shorter := cloned(other)
	shorter.Branches = append(shorter.Branches, api.Branch{First: 9, Second: 10, To: 12}) // 3071
	shortest := cloned(shorter)
	shortest.Branches = append(shortest.Branches, api.Branch{First: 9, Second: 9, To: 12}) // 2047, and 4095
	for i, x := range []struct {
		a     api.TreeAutomaton
		nodes int // 0: none
		e     api.Errno
	}{
		{api.TreeAutomaton{Letters: 1}, 0, api.OK},
		{api.TreeAutomaton{Letters: 1, States: 2, Accept: ints(0, 1)}, 0, api.OK},
		{api.TreeAutomaton{Letters: 1, States: 2, Accept: ints(1), Leaves: []api.Leaf{{}}, Branches: []api.Branch{{First: 1, To: 1}, {Second: 1, To: 1}, {First: 1, Second: 1, To: 1}}}, 0, api.OK},
		{api.TreeAutomaton{Letters: 1, States: 1, Leaves: []api.Leaf{{}}}, 0, api.OK},
		{api.TreeAutomaton{Letters: 1, States: 1, Accept: ints(0), Leaves: []api.Leaf{{}}}, 1, api.OK},
		{comb(1), 3, api.OK},
		{comb(63), 127, api.OK},
		{cycle(64, 63), 125, api.OK},
		{cycle(64, 0), 127, api.OK},
		{far(20), 39, api.OK},
		{far(63), 125, api.OK},
		{tower(64, 0), 1, api.OK},
		{tower(64, 63, 11, 62), 4095, api.OK},
		{tower(64, 12, 63), 0, api.ErrLarge},
		{tower(64, 63), 0, api.ErrLarge},
		{tower(64, 63, 5), 63, api.OK},
		{long, 4095, api.OK},
		{longer, 0, api.ErrLarge},
		{other, 0, api.ErrLarge},
		{shorter, 0, api.ErrLarge},
		{shortest, 4095, api.OK},
	} {
		shape, labels, found, e := Witness(x.a)
		if e != x.e || found != (x.nodes > 0) || len(shape) != x.nodes || len(labels) != x.nodes {
			t.Errorf("%d: %d nodes, %v, error %d", i, len(shape), found, e)
			continue
		}
		if found {
			if ok, e := Accepts(x.a, shape, labels); e != api.OK || !ok {
				t.Errorf("%d: %v, %v, error %d", i, shape, labels, e)
			}
		}
	}
}

// P7.5: small automata of all forms against making all trees by their sizes.
func TestWitnessPlainly(t *testing.T) {
	x := newSource(4)
	seen := map[int]int{}
	for range 3000 {
		a := x.automaton(x.between(1, 3), 4)
		if x.IntN(2) == 0 && a.States > 0 { // few branches, so that trees are large
			a.Branches = a.Branches[:min(len(a.Branches), 2*a.States)]
			a.Leaves = a.Leaves[:min(len(a.Leaves), 1)]
		}
		want := plainSmallest(a)
		shape, labels, found, e := Witness(a)
		if e != api.OK || found != (want > 0) || len(shape) != want {
			t.Fatalf("%v, %v, error %d, not %d nodes: %v", shape, found, e, want, a)
		}
		if found {
			if ok, e := Accepts(a, shape, labels); e != api.OK || !ok {
				t.Fatalf("%v, %v, error %d: %v", shape, labels, e, a)
			}
		}
		seen[want]++
	}
	if seen[0] < 100 || seen[1] < 100 || seen[3] < 20 || seen[5] < 5 || len(seen) < 5 {
		t.Error(seen)
	}
}
