package tree

import (
	"slices"
	"testing"

	"familycheck/api"
)

// P7.1: each error of an automaton, and the limits.
func TestValidate(t *testing.T) {
	for i, x := range []struct {
		change func(a *api.TreeAutomaton)
		want   api.Errno
	}{
		{func(a *api.TreeAutomaton) {}, api.OK},
		{func(a *api.TreeAutomaton) { a.Letters = 0 }, api.ErrArg},
		{func(a *api.TreeAutomaton) { *a = api.TreeAutomaton{} }, api.ErrArg},
		{func(a *api.TreeAutomaton) { a.Letters = -1 }, api.ErrArg},
		{func(a *api.TreeAutomaton) { a.Letters = 1 }, api.ErrArg}, // transitions have the letter 1
		{func(a *api.TreeAutomaton) { a.Letters, a.Leaves, a.Branches = 1, nil, nil }, api.OK},
		{func(a *api.TreeAutomaton) { a.Letters = api.MaxLetters }, api.OK},
		{func(a *api.TreeAutomaton) { a.Letters = api.MaxLetters + 1 }, api.ErrArg},
		{func(a *api.TreeAutomaton) { a.Letters = maxInt }, api.ErrArg},
		{func(a *api.TreeAutomaton) { a.States = -1 }, api.ErrArg},
		{func(a *api.TreeAutomaton) { a.States = minInt }, api.ErrArg},
		{func(a *api.TreeAutomaton) { a.States = 0 }, api.ErrArg},
		{func(a *api.TreeAutomaton) { *a = api.TreeAutomaton{Letters: 1} }, api.OK},
		{func(a *api.TreeAutomaton) { *a = api.TreeAutomaton{Letters: 1, States: -1} }, api.ErrArg},
		{func(a *api.TreeAutomaton) { a.States = api.MaxAutomaton }, api.OK},
		{func(a *api.TreeAutomaton) { a.States = api.MaxAutomaton + 1 }, api.ErrArg},
		{func(a *api.TreeAutomaton) { a.States = maxInt }, api.ErrArg},
		{func(a *api.TreeAutomaton) { a.Accept = nil }, api.OK},
		{func(a *api.TreeAutomaton) { a.Accept = ints(5, 5, 1) }, api.OK},
		{func(a *api.TreeAutomaton) { a.Accept = ints(5, 6) }, api.ErrArg},
		{func(a *api.TreeAutomaton) { a.Accept = ints(0, minInt) }, api.ErrArg},
		{func(a *api.TreeAutomaton) { a.Leaves = nil }, api.OK},
		{func(a *api.TreeAutomaton) { a.Leaves[1].Letter = 2 }, api.ErrArg},
		{func(a *api.TreeAutomaton) { a.Leaves[1].Letter = -1 }, api.ErrArg},
		{func(a *api.TreeAutomaton) { a.Leaves[1].To = 6 }, api.ErrArg},
		{func(a *api.TreeAutomaton) { a.Leaves[1].To = -1 }, api.ErrArg},
		{func(a *api.TreeAutomaton) { a.Branches = nil }, api.OK},
		{func(a *api.TreeAutomaton) { a.Branches[3].Letter = 2 }, api.ErrArg},
		{func(a *api.TreeAutomaton) { a.Branches[3].Letter = -1 }, api.ErrArg},
		{func(a *api.TreeAutomaton) { a.Branches[3].First = 6 }, api.ErrArg},
		{func(a *api.TreeAutomaton) { a.Branches[3].First = -1 }, api.ErrArg},
		{func(a *api.TreeAutomaton) { a.Branches[3].Second = 6 }, api.ErrArg},
		{func(a *api.TreeAutomaton) { a.Branches[3].Second = -1 }, api.ErrArg},
		{func(a *api.TreeAutomaton) { a.Branches[3].To = 6 }, api.ErrArg},
		{func(a *api.TreeAutomaton) { a.Branches[len(a.Branches)-1].To = -1 }, api.ErrArg},
		{func(a *api.TreeAutomaton) { *a = doubled(*a) }, api.OK},
	} {
		a := far(5)
		x.change(&a)
		if e := Validate(a); e != x.want {
			t.Errorf("%d: error %d, not %d", i, e, x.want)
		}
	}
}

// P7.1: automata are compared by their letters after each of them has been examined, and before their subsets are counted.
func TestLetters(t *testing.T) {
	a, b := api.TreeAutomaton{Letters: 2}, api.TreeAutomaton{Letters: 3}
	large := far(7)
	for i, e := range []api.Errno{
		second(Union(a, b)), second(Union(b, a)), second(Union(a, a, b)), second(Union(a, b, a)), second(Union(large, b)), second(Union(b, large)),
		second(Intersect(a, b)), second(Intersect(a, a, b)), second(Intersect(large, large, b)),
		second(Included(a, b)), second(Included(large, b)), second(Included(b, large)),
		second(Same(a, b)), second(Same(large, b)), second(Same(b, large)),
		second(Union(large, api.TreeAutomaton{})), second(Intersect(large, large, api.TreeAutomaton{})), second(Union()), second(Intersect()),
	} {
		if e != api.ErrArg {
			t.Errorf("%d: error %d", i, e)
		}
	}
}

func second[T any](x T, e api.Errno) api.Errno { return e }

// spine returns a tree whose inner nodes are one below the other, so many of them, as first or as second children.
func spine(inner int, right bool) (shape []int) {
	for range inner {
		shape = append(shape, 2)
		if right {
			shape = append(shape, 0)
		}
	}
	shape = append(shape, 0)
	if !right {
		shape = append(shape, make([]int, inner)...)
	}
	return shape
}

// P7.2: the document's example, other trees, and what is none.
func TestValidTree(t *testing.T) {
	for i, x := range []struct {
		letters       int
		shape, labels []int
		want          bool
	}{
		{2, ints(2, 0, 0), ints(1, 0, 1), true},
		{2, ints(0), ints(1), true},
		{1, ints(0), ints(0), true},
		{1, ints(0), ints(1), false},
		{0, ints(0), ints(0), false},
		{-1, ints(0), ints(-1), false},
		{minInt, ints(0), ints(0), false},
		{maxInt, ints(0), ints(maxInt - 1), true},
		{2, nil, nil, false},
		{2, ints(0), nil, false},
		{2, nil, ints(0), false},
		{2, ints(0), ints(0, 0), false},
		{2, ints(2, 0, 0), ints(0, 0), false},
		{2, ints(2, 0, 0), ints(0, 0, -1), false},
		{2, ints(2, 0, 0), ints(0, 2, 0), false},
		{2, ints(2, 0, 0), ints(minInt, 0, 0), false},
		{2, ints(2, 0), ints(0, 0), false},
		{2, ints(2), ints(0), false},
		{2, ints(0, 0), ints(0, 0), false},
		{2, ints(0, 2, 0), ints(0, 0, 0), false},
		{2, ints(2, 0, 0, 0), ints(0, 0, 0, 0), false},
		{2, ints(2, 0, 0, 2, 0, 0), ints(0, 0, 0, 0, 0, 0), false},
		{2, ints(1, 0), ints(0, 0), false},
		{2, ints(2, 1, 0, 0), ints(0, 0, 0, 0), false},
		{2, ints(3, 0, 0, 0), ints(0, 0, 0, 0), false},
		{2, ints(-1), ints(0), false},
		{2, ints(2, -2, 2, 0, 0), ints(0, 0, 0, 0, 0), false},
		{2, ints(4, 0, 0, 0, 0), ints(0, 0, 0, 0, 0), false},
		{2, ints(maxInt, 0, 0), ints(0, 0, 0), false},
		{2, ints(2, minInt, 0), ints(0, 0, 0), false},
		{2, ints(2, 0, 2, 0, 0), ints(0, 1, 0, 1, 0), true},
		{2, ints(2, 2, 0, 0, 0), ints(0, 1, 0, 1, 0), true},
		{2, ints(2, 2, 0, 0, 2, 0, 0), ints(0, 1, 0, 1, 0, 1, 1), true},
	} {
		if got := ValidTree(x.letters, x.shape, x.labels); got != x.want {
			t.Errorf("%d: %v", i, got)
		}
	}
	for _, right := range []bool{false, true} {
		for inner, want := range map[int]bool{2046: true, 2047: true, 2048: false, 4000: false} {
			shape := spine(inner, right)
			if got := ValidTree(2, shape, make([]int, len(shape))); got != want {
				t.Errorf("%d inner nodes: %v", inner, got)
			}
		}
	}
}

// P7.2: every shape and label of small lists, against the trees that there are.
func TestValidTreePlainly(t *testing.T) {
	valid := map[string]bool{}
	for _, x := range plainTreesTo(2, 5) {
		valid[text(x.shape(), x.labels())] = true
	}
	for length := range 6 {
		for _, shape := range lists(0, 3, length) {
			for _, labels := range lists(-1, 3, length) {
				if got := ValidTree(2, shape, labels); got != valid[text(shape, labels)] {
					t.Fatal(shape, labels, got)
				}
			}
		}
	}
	if len(valid) != 2+8+64 {
		t.Error(len(valid))
	}
}

// lists returns all lists of a length of numbers from low to high - 1.
func lists(low, high, length int) [][]int {
	if length == 0 {
		return [][]int{nil}
	}
	var all [][]int
	for _, list := range lists(low, high, length-1) {
		for i := low; i < high; i++ {
			all = append(all, append(slices.Clone(list), i))
		}
	}
	return all
}

// P7.2: some trees of some automata.
func TestAccepts(t *testing.T) {
	all := api.TreeAutomaton{Letters: 8, States: 1, Accept: ints(0), Leaves: []api.Leaf{{Letter: 7}}, Branches: []api.Branch{{Letter: 6}}}
	order := api.TreeAutomaton{Letters: 2, States: 3, Accept: ints(2), Leaves: []api.Leaf{{Letter: 0, To: 0}, {Letter: 1, To: 1}}, Branches: []api.Branch{{First: 0, Second: 1, To: 2}}}
	for i, x := range []struct {
		a    api.TreeAutomaton
		tree string
		want bool
		e    api.Errno
	}{
		{oneToken(), "0,", true, api.OK},
		{oneToken(), "1,", false, api.OK},
		{oneToken(), "01,1,", true, api.OK},
		{oneToken(), "11,0,", true, api.OK},
		{oneToken(), "00,1,", false, api.OK},
		{oneToken(), "111,0,1,", true, api.OK},
		{oneToken(), "2,", false, api.ErrArg},
		{oneToken(), "01,2,", false, api.ErrArg},
		{oneToken(), "01,", false, api.ErrArg},
		{oneToken(), "", false, api.ErrArg},
		{order, "00,1,", true, api.OK},
		{order, "01,0,", false, api.OK},
		{order, "10,1,", false, api.OK},
		{order, "000,1,1,", false, api.OK},
		{far(2), "1,", false, api.OK},
		{far(2), "01,0,", true, api.OK},
		{far(2), "00,1,", false, api.OK},
		{far(2), "001,0,0,", false, api.OK},
		{far(2), "010,0,0,", true, api.OK},
		{far(3), "001,0,0,", true, api.OK},
		{doubled(far(2)), "01,0,", true, api.OK},
		{doubled(far(2)), "00,1,", false, api.OK},
		{all, "67,67,7,", true, api.OK},
		{all, "7,", true, api.OK},
		{all, "67,6,", false, api.OK},
		{all, "6,", false, api.OK},
		{api.TreeAutomaton{Letters: 2}, "0,", false, api.OK},
		{api.TreeAutomaton{Letters: 2}, "2,", false, api.ErrArg},
		{api.TreeAutomaton{Letters: 2, States: 1, Accept: ints(0)}, "01,0,", false, api.OK},
		{api.TreeAutomaton{Letters: 1, States: 2, Accept: ints(1), Leaves: []api.Leaf{{To: 0}, {To: 1}}}, "0,", true, api.OK},
	} {
		shape, labels := treeOf(x.tree)
		if got, e := Accepts(x.a, shape, labels); got != x.want || e != x.e {
			t.Errorf("%d: %v, error %d", i, got, e)
		}
	}
	for _, right := range []bool{false, true} {
		for inner := 61; inner <= 64; inner++ {
			shape := spine(inner, right)
			if got, e := Accepts(comb(63), shape, make([]int, len(shape))); got != (inner == 63 && !right) || e != api.OK {
				t.Error(inner, right, got, e)
			}
		}
		for inner, want := range map[int]api.Errno{2047: api.OK, 2048: api.ErrArg} {
			shape := spine(inner, right)
			if got, e := Accepts(cycle(64, 0), shape, make([]int, len(shape))); got != (inner == 2047) || e != want {
				t.Error(inner, right, got, e)
			}
		}
	}
}

// P7.2, P7.3, P7.4, P7.5: small automata of all forms against plain searches.
func TestAutomataPlainly(t *testing.T) {
	x := newSource(2)
	different := map[int]bool{}
	for range 500 {
		letters := x.between(1, 2)
		a, b := x.automaton(letters, 3), x.automaton(letters, 3)
		if x.IntN(3) == 0 {
			a = x.complete(letters, 5)
		}
		first, other := plainCanonical(a), plainCanonical(b)
		if first.States*other.States > api.MaxAutomaton {
			continue
		}
		different[first.States] = true
		for name, pair := range map[string][2]api.TreeAutomaton{
			"Minimal":    {accepted(t)(Minimal(a)), first},
			"twice":      {accepted(t)(Minimal(doubled(a))), first},
			"Complement": {accepted(t)(Complement(a)), plainCanonical(plainPairs(first, first, func(x, y bool) bool { return !x }))},
			"Union":      {accepted(t)(Union(a, b)), plainCanonical(plainUnion(a, b))},
			"Intersect":  {accepted(t)(Intersect(a, b)), plainCanonical(plainPairs(first, other, func(x, y bool) bool { return x && y }))},
		} {
			if !same(pair[0], pair[1]) {
				t.Fatalf("%s: %v, not %v, of %v and %v", name, pair[0], pair[1], a, b)
			}
		}
		if got, e := Same(a, b); e != api.OK || got != same(first, other) {
			t.Fatalf("Same: %v, %d: %v, %v", got, e, a, b)
		}
		if got, e := Same(a, doubled(a)); e != api.OK || !got {
			t.Fatalf("Same: %v, %d: %v", got, e, a)
		}
		if got, e := Included(a, b); e != api.OK || got != plainIncluded(a, b) {
			t.Fatalf("Included: %v, %d: %v, %v", got, e, a, b)
		}
		for _, w := range plainTreesTo(letters, 5) {
			want := plainAccepts(a, w)
			if got, e := Accepts(a, w.shape(), w.labels()); e != api.OK || got != want || plainAccepts(first, w) != want {
				t.Fatalf("Accepts: %v, %d: %v, %v", got, e, a, w)
			}
		}
	}
	if len(different) < 6 {
		t.Error(different)
	}
}

// P7.3: the document's example, numbers of states and their order.
func TestMinimal(t *testing.T) {
	none := api.TreeAutomaton{Letters: 1, States: 1, Leaves: []api.Leaf{{}}, Branches: []api.Branch{{}}}
	all := api.TreeAutomaton{Letters: 1, States: 1, Accept: ints(0), Leaves: []api.Leaf{{}}, Branches: []api.Branch{{}}}
	full := cycle(3, 0)
	full.Accept, full.Leaves = ints(2, 0, 1), []api.Leaf{{To: 2}, {To: 1}}
	for i, x := range []struct{ a, want api.TreeAutomaton }{
		{api.TreeAutomaton{Letters: 1}, none},
		{api.TreeAutomaton{Letters: 1, States: 3, Leaves: []api.Leaf{{To: 1}}, Branches: []api.Branch{{First: 1, Second: 1}}}, none},
		{api.TreeAutomaton{Letters: 1, States: 2, Accept: ints(0, 1), Branches: []api.Branch{{}}}, none}, // without leaves there are no trees
		{all, all},
		{full, all},
		{comb(0), api.TreeAutomaton{Letters: 1, States: 2, Accept: ints(0), Leaves: []api.Leaf{{}}, Branches: []api.Branch{{First: 0, Second: 0, To: 1}, {First: 0, Second: 1, To: 1}, {First: 1, Second: 0, To: 1}, {First: 1, Second: 1, To: 1}}}},
		// The numbers of leaves 1, 2 and 0 modulo 3 are met in this order.
		{cycle(3, 0), api.TreeAutomaton{Letters: 1, States: 3, Accept: ints(2), Leaves: []api.Leaf{{}}, Branches: []api.Branch{{To: 1}, {Second: 1, To: 2}, {Second: 2, To: 0}, {First: 1, To: 2}, {First: 1, Second: 1}, {First: 1, Second: 2, To: 1}, {First: 2}, {First: 2, Second: 1, To: 1}, {First: 2, Second: 2, To: 2}}}},
	} {
		if got, e := Minimal(x.a); e != api.OK || !same(got, x.want) {
			t.Errorf("%d: %v, not %v, error %d", i, got, x.want, e)
		}
	}
	// Only the letters 6 and 7 tell anything apart.
	eight := api.TreeAutomaton{Letters: 8, States: 2, Leaves: []api.Leaf{{Letter: 6, To: 1}, {Letter: 0}}, Branches: []api.Branch{{Letter: 7, First: 1, To: 1}, {Letter: 6, Second: 1}}}
	for _, accept := range [][]int{ints(0), ints(1), ints(0, 1)} {
		eight.Accept = accept
		if got, e := Minimal(eight); e != api.OK || !same(got, plainCanonical(eight)) {
			t.Error(got, e)
		}
	}
	for n, want := range map[int]int{1: 2, 3: 8, 6: 64} {
		if a, e := Minimal(far(n)); e != api.OK || a.States != want || len(a.Leaves) != 2 || len(a.Branches) != 2*want*want || len(a.Accept) != want/2 {
			t.Error(n, a.States, e)
		}
	}
}

// P7.3: states are met round by round, in each round by letters first, then by pairs of the states that are known at its beginning.
func TestOrder(t *testing.T) {
	a := api.TreeAutomaton{Letters: 2, States: 6, Leaves: []api.Leaf{{Letter: 0, To: 5}, {Letter: 1, To: 4}}}
	for letter := range 2 {
		for i := range 6 {
			for j := range 6 {
				a.Branches = append(a.Branches, api.Branch{Letter: letter, First: i, Second: j, To: 5})
			}
		}
	}
	to := func(letter, first, second, to int) { a.Branches[letter*36+first*6+second].To = to }
	to(1, 5, 5, 0) // met in the first round, after all branches with the letter 0
	to(0, 4, 4, 1) // met before it
	to(0, 1, 0, 2) // met in the second round
	to(0, 0, 5, 3) // met in the second round, after the one above: first children in the order of their numbers
	to(1, 4, 5, 0) // the rest tells all states apart
	for i := range 4 {
		to(1, i, i, max(0, i-1))
	}
	a.Accept = ints(0)
	got := accepted(t)(Minimal(a))
	if !same(got, plainCanonical(a)) || got.States != 6 || got.Leaves[0].To != 0 || got.Leaves[1].To != 1 {
		t.Fatal(got)
	}
	branch := func(letter, first, second int) int { return got.Branches[(letter*6+first)*6+second].To }
	// In the new numbers 5, 4, 1, 0, 2, 3 are 0, 1, 2, 3, 4, 5.
	if branch(0, 1, 1) != 2 || branch(1, 0, 0) != 3 || branch(0, 2, 3) != 4 || branch(0, 3, 0) != 5 || !same(got.Accept, ints(3)) {
		t.Error(got)
	}
	for i, b := range got.Branches {
		if b.Letter != i/36 || b.First != i/6%6 || b.Second != i%6 {
			t.Error(i, b)
		}
	}
}

// P7.3, P7.4, P7.5, P7.8: up to MaxAutomaton subsets, the empty set among them, and not more.
func TestSubsetLimit(t *testing.T) {
	empty := far(7)
	empty.Accept = nil
	unused := cycle(1, 0)
	unused.States = 64
	for i, x := range []struct {
		a      api.TreeAutomaton
		states int // 0: too many
	}{
		{cycle(64, 0), 64},
		{cycle(64, 7), 64},
		{cycle(63, 7), 63},
		{comb(61), 63},
		{comb(62), 64},
		{comb(63), 0}, // 64 states, and the empty set
		{far(6), 64},
		{far(7), 0},
		{empty, 0}, // the language is empty
		{unused, 1},
	} {
		want := api.OK
		if x.states == 0 {
			want = api.ErrLarge
		}
		a, e := Minimal(x.a)
		c, e2 := Complement(x.a)
		if e != want || e2 != want || a.States != x.states || c.States != x.states {
			t.Errorf("%d: %d, %d states, errors %d, %d", i, a.States, c.States, e, e2)
		}
		if _, e := Merge(x.a, 8); e != want {
			t.Errorf("%d: Merge: error %d", i, e)
		}
		other := api.TreeAutomaton{Letters: x.a.Letters}
		if yes, e := Included(other, x.a); e != want || yes != (e == api.OK) {
			t.Errorf("%d: %v, error %d", i, yes, e)
		}
		for j, e := range []api.Errno{second(Union(x.a)), second(Intersect(x.a)), second(Union(x.a, other)), second(Union(other, x.a)), second(Union(other, other, x.a)), second(Intersect(x.a, other)), second(Intersect(other, x.a)), second(Included(x.a, other)), second(Same(x.a, other)), second(Same(other, x.a))} {
			if e != want {
				t.Errorf("%d, %d: error %d", i, j, e)
			}
		}
	}
}

// P7.4: up to MaxAutomaton tuples of states of the canonical automata, also if few of them can be reached.
func TestProductLimit(t *testing.T) {
	wide := comb(6)
	wide.States = 64
	one := cycle(1, 0)
	many := slices.Repeat([]api.TreeAutomaton{cycle(2, 0)}, 64)
	for i, x := range []struct {
		list []api.TreeAutomaton
		want api.Errno
	}{
		{[]api.TreeAutomaton{comb(6), comb(6)}, api.OK}, // 8 states each
		{[]api.TreeAutomaton{comb(6), comb(7)}, api.ErrLarge},
		{[]api.TreeAutomaton{comb(7), comb(6)}, api.ErrLarge},
		{[]api.TreeAutomaton{cycle(64, 0), one}, api.OK},
		{[]api.TreeAutomaton{cycle(32, 0), cycle(2, 0)}, api.OK},
		{[]api.TreeAutomaton{cycle(32, 0), cycle(3, 0)}, api.ErrLarge},
		{[]api.TreeAutomaton{cycle(64, 0), cycle(64, 0)}, api.ErrLarge},
		{[]api.TreeAutomaton{cycle(4, 0), cycle(4, 0), cycle(4, 1)}, api.OK},
		{[]api.TreeAutomaton{cycle(4, 0), cycle(5, 0), cycle(4, 1)}, api.ErrLarge},
		{[]api.TreeAutomaton{cycle(13, 0), cycle(5, 0)}, api.ErrLarge}, // 65
		{[]api.TreeAutomaton{cycle(7, 0), cycle(9, 0), one}, api.OK},   // 63
		{[]api.TreeAutomaton{wide, wide}, api.OK},
		{slices.Repeat([]api.TreeAutomaton{one}, 1000), api.OK},
		{many[:6], api.OK},
		{many[:7], api.ErrLarge},
		{many, api.ErrLarge},
		{append(slices.Clone(many), far(0), api.TreeAutomaton{Letters: 2}), api.ErrArg},
		{append(slices.Clone(many), comb(63)), api.ErrLarge},
	} {
		u, e := Union(x.list...)
		n, e2 := Intersect(x.list...)
		if e != x.want || e2 != x.want || e != api.OK && (!isZero(u) || !isZero(n)) {
			t.Errorf("%d: errors %d, %d", i, e, e2)
		}
	}
	if _, e := Included(cycle(64, 0), cycle(63, 0)); e != api.OK {
		t.Errorf("Included: error %d", e)
	}
	if n := accepted(t)(Intersect(cycle(7, 3), cycle(9, 5))); n.States != 63 || len(n.Accept) != 1 {
		t.Error(n.States, n.Accept)
	}
	if u := accepted(t)(Union(cycle(4, 0), cycle(4, 2))); u.States != 2 || !same(u.Accept, ints(1)) {
		t.Error(u)
	}
}

// P7.4: any number of automata, of which one may be that of all trees or that of none.
func TestManyAutomata(t *testing.T) {
	x := newSource(3)
	for range 300 {
		letters := x.between(1, 2)
		var list []api.TreeAutomaton
		states := 1
		for range x.between(1, 4) {
			a := x.automaton(letters, 3)
			if n := plainCanonical(a).States; states*n <= api.MaxAutomaton {
				states *= n
				list = append(list, a)
			}
		}
		if len(list) == 0 {
			continue
		}
		var not []api.TreeAutomaton
		for _, a := range list {
			not = append(not, accepted(t)(Complement(a)))
		}
		if got := accepted(t)(Union(list...)); !same(got, plainCanonical(plainUnion(list...))) {
			t.Fatalf("Union: %v: %v", got, list)
		}
		neither := plainCanonical(plainUnion(not...))
		if got := accepted(t)(Intersect(list...)); !same(got, plainCanonical(plainPairs(neither, neither, func(x, y bool) bool { return !x }))) {
			t.Fatalf("Intersect: %v: %v", got, list)
		}
	}
}

// P7.5: languages and parts of them.
func TestIncluded(t *testing.T) {
	for i, x := range []struct {
		a, b         api.TreeAutomaton
		within, same bool
	}{
		{cycle(4, 0), cycle(2, 0), true, false},
		{cycle(2, 0), cycle(4, 0), false, false},
		{cycle(64, 33), cycle(32, 1), true, false},
		{cycle(64, 33), cycle(32, 2), false, false},
		{cycle(9, 0), cycle(7, 0), false, false},
		{comb(5), comb(5), true, true},
		{comb(5), comb(4), false, false},
		{comb(5), cycle(6, 0), true, false}, // six leaves
		{far(6), far(6), true, true},
		{far(6), far(5), false, false},
		{api.TreeAutomaton{Letters: 1}, comb(3), true, false},
		{comb(3), api.TreeAutomaton{Letters: 1}, false, false},
		{api.TreeAutomaton{Letters: 1}, api.TreeAutomaton{Letters: 1, States: 64, Accept: ints(63)}, true, true},
		{comb(3), cycle(1, 0), true, false},
		{cycle(1, 0), comb(3), false, false},
	} {
		within, e := Included(x.a, x.b)
		equal, e2 := Same(x.a, x.b)
		if e != api.OK || e2 != api.OK || within != x.within || equal != x.same {
			t.Errorf("%d: %v, %v, errors %d, %d", i, within, equal, e, e2)
		}
	}
}
