package word

import (
	"testing"

	"familycheck/api"
)

// P6.2: some words of some automata.
func TestAccepts(t *testing.T) {
	empty := api.Automaton{Letters: 2, States: 1, Start: ints(0), Accept: ints(0)}
	for i, x := range []struct {
		a    api.Automaton
		w    string
		want bool
		e    api.Errno
	}{
		{far(2), "", false, api.OK},
		{far(2), "1", false, api.OK},
		{far(2), "10", true, api.OK},
		{far(2), "011", true, api.OK},
		{far(2), "100", false, api.OK},
		{far(2), "2", false, api.ErrArg},
		{far(2), "102", false, api.ErrArg},
		{doubled(far(2)), "10", true, api.OK},
		{doubled(far(2)), "100", false, api.OK},
		{empty, "", true, api.OK},
		{empty, "0", false, api.OK},
		{api.Automaton{Letters: 2}, "", false, api.OK},
		{api.Automaton{Letters: 2}, "01", false, api.OK},
		{api.Automaton{Letters: 2}, "02", false, api.ErrArg},
		{api.Automaton{Letters: 8, States: 1, Start: ints(0), Accept: ints(0), Edges: []api.Edge{{Letter: 7}}}, "77", true, api.OK},
		{api.Automaton{Letters: 1, States: 2, Start: ints(0), Accept: ints(1)}, "", false, api.OK},
		{api.Automaton{Letters: 1, States: 2, Start: ints(0, 1), Accept: ints(1)}, "", true, api.OK},
	} {
		if got, e := Accepts(x.a, word(x.w)); got != x.want || e != x.e {
			t.Errorf("%d: %v, error %d", i, got, e)
		}
	}
	for _, w := range [][]int{{-1}, {0, minInt}, {maxInt}} {
		if got, e := Accepts(far(2), w); got || e != api.ErrArg {
			t.Error(w, got, e)
		}
	}
	for _, n := range []int{398, 399, 400} {
		if got, e := Accepts(chain(1, 399), make([]int, n)); got != (n == 399) || e != api.OK {
			t.Error(n, got, e)
		}
	}
}

// P6.2, P6.3, P6.4, P6.5: small automata of all forms against plain searches.
func TestAutomataPlainly(t *testing.T) {
	x := newSource(2)
	different := map[int]bool{}
	for range 1200 {
		letters := x.between(1, 3)
		a, b := x.automaton(letters, 4), x.automaton(letters, 4)
		first, other := plainCanonical(a), plainCanonical(b)
		different[first.States] = true
		for name, pair := range map[string][2]api.Automaton{
			"Minimal":    {accepted(t)(Minimal(a)), first},
			"twice":      {accepted(t)(Minimal(doubled(a))), first},
			"Complement": {accepted(t)(Complement(a)), plainCanonical(plainPairs(first, first, func(x, y bool) bool { return !x }))},
			"Union":      {accepted(t)(Union(a, b)), plainCanonical(plainUnion(a, b))},
			"Intersect":  {accepted(t)(Intersect(a, b)), plainCanonical(plainPairs(first, other, func(x, y bool) bool { return x && y }))},
		} {
			if !same(pair[0], pair[1]) {
				t.Fatalf("%s: %v, not %v, of %v and %v", name, pair[0], pair[1], a, b)
			}
		}
		if got, e := Same(a, b); e != api.OK || got != same(first, other) {
			t.Fatalf("Same: %v, %d: %v, %v", got, e, a, b)
		}
		if got, e := Same(a, doubled(a)); e != api.OK || !got {
			t.Fatalf("Same: %v, %d: %v", got, e, a)
		}
		for _, w := range plainWordsTo(letters, 4) {
			want := plainAccepts(a, w)
			if got, e := Accepts(a, w); e != api.OK || got != want || plainAccepts(first, w) != want {
				t.Fatalf("Accepts: %v, %d: %v, %v", got, e, a, w)
			}
		}
	}
	if len(different) < 6 {
		t.Error(different)
	}
}

// P6.3: the document's examples, and the numbers of states.
func TestMinimal(t *testing.T) {
	loops := []api.Edge{{}, {Letter: 1}}
	all := api.Automaton{Letters: 2, States: 1, Start: ints(0), Accept: ints(0), Edges: loops}
	none := api.Automaton{Letters: 2, States: 1, Start: ints(0), Edges: loops}
	for i, x := range []struct{ a, want api.Automaton }{
		{api.Automaton{Letters: 2}, none},
		{api.Automaton{Letters: 2, States: 3, Start: ints(0, 1), Accept: ints(2)}, none},
		{api.Automaton{Letters: 2, States: 2, Accept: ints(0, 1), Edges: loops}, none},
		{all, all},
		{api.Automaton{Letters: 2, States: 3, Start: ints(2, 1), Accept: ints(2, 0, 1), Edges: []api.Edge{{From: 2, To: 1}, {From: 1, To: 2}, {From: 1, To: 1, Letter: 1}, {From: 2, To: 2, Letter: 1}}}, all},
		{chain(1, 0), api.Automaton{Letters: 1, States: 2, Start: ints(0), Accept: ints(0), Edges: []api.Edge{{To: 1}, {From: 1, To: 1}}}},
		{far(1), api.Automaton{Letters: 2, States: 2, Start: ints(0), Accept: ints(1), Edges: []api.Edge{{}, {Letter: 1, To: 1}, {From: 1}, {From: 1, Letter: 1, To: 1}}}},
		{oneOf(2, word("1"), word("00")), api.Automaton{Letters: 2, States: 4, Start: ints(0), Accept: ints(2), Edges: []api.Edge{{To: 1}, {Letter: 1, To: 2}, {From: 1, To: 2}, {From: 1, Letter: 1, To: 3}, {From: 2, To: 3}, {From: 2, Letter: 1, To: 3}, {From: 3, To: 3}, {From: 3, Letter: 1, To: 3}}}},
	} {
		if got, e := Minimal(x.a); e != api.OK || !same(got, x.want) {
			t.Errorf("%d: %v, not %v, error %d", i, got, x.want, e)
		}
	}
	// The letters 6 and 7 tell the start and the other state apart.
	eight := api.Automaton{Letters: 8, States: 2, Start: ints(0), Edges: []api.Edge{{Letter: 6, To: 1}, {From: 1, Letter: 7, To: 1}}}
	for _, accept := range [][]int{ints(0), ints(1), ints(0, 1)} {
		eight.Accept = accept
		if got, e := Minimal(eight); e != api.OK || !same(got, plainCanonical(eight)) {
			t.Error(got, e)
		}
	}
	for n, want := range map[int]int{1: 2, 5: 32, 8: 256} {
		if a, e := Minimal(far(n)); e != api.OK || a.States != want || len(a.Edges) != 2*want || len(a.Accept) != want/2 {
			t.Error(n, a.States, e)
		}
	}
}

// P6.3, P6.4, P6.5, P6.11: up to MaxMachine subsets, the empty set among them, and not more.
func TestSubsetLimit(t *testing.T) {
	for i, x := range []struct {
		a      api.Automaton
		states int // 0: too many
	}{
		{cycle(400, 0), 400},
		{cycle(400, 7), 400},
		{chain(1, 397), 399},
		{chain(1, 398), 400},
		{chain(1, 399), 0}, // 400 states, and the empty set
		{far(8), 256},
		{far(9), 0},
		{api.Automaton{Letters: 2, States: 10, Start: ints(0), Edges: far(9).Edges}, 0}, // the language is empty
	} {
		want := api.OK
		if x.states == 0 {
			want = api.ErrLarge
		}
		a, e := Minimal(x.a)
		c, e2 := Complement(x.a)
		if e != want || e2 != want || a.States != x.states || c.States != x.states {
			t.Errorf("%d: %d, %d states, errors %d, %d", i, a.States, c.States, e, e2)
		}
		if _, e := Merge(x.a, 8); e != want {
			t.Errorf("%d: Merge: error %d", i, e)
		}
		other := api.Automaton{Letters: x.a.Letters}
		yes, w, e := Included(other, x.a)
		if e != want || yes != (e == api.OK) || w != nil {
			t.Errorf("%d: %v, %v, error %d", i, yes, w, e)
		}
		for _, e := range []api.Errno{second(Union(x.a, other)), second(Union(other, x.a)), second(Intersect(x.a, other)), second(Intersect(other, x.a)), second(Same(x.a, other)), second(Same(other, x.a))} {
			if e != want {
				t.Errorf("%d: error %d", i, e)
			}
		}
	}
}

// P6.4: up to MaxMachine pairs of states of the canonical automata, also if few of them can be reached.
func TestProductLimit(t *testing.T) {
	wide := chain(1, 18)
	wide.States = 400
	for i, x := range []struct {
		a, b api.Automaton
		want api.Errno
	}{
		{chain(1, 18), chain(1, 18), api.OK}, // 20 states each
		{chain(1, 18), chain(1, 19), api.ErrLarge},
		{chain(1, 19), chain(1, 18), api.ErrLarge},
		{cycle(400, 0), cycle(1, 0), api.OK},
		{cycle(200, 0), cycle(2, 0), api.OK},
		{cycle(200, 0), cycle(3, 0), api.ErrLarge},
		{cycle(21, 0), cycle(19, 0), api.OK},
		{cycle(21, 0), cycle(21, 0), api.ErrLarge},
		{wide, wide, api.OK},
		{api.Automaton{Letters: 1, States: 400}, api.Automaton{Letters: 1, States: 400}, api.OK},
	} {
		u, e := Union(x.a, x.b)
		n, e2 := Intersect(x.a, x.b)
		if e != x.want || e2 != x.want || e != api.OK && (!isZero(u) || !isZero(n)) {
			t.Errorf("%d: errors %d, %d", i, e, e2)
		}
		if _, _, e := Included(x.a, x.b); e != api.OK {
			t.Errorf("%d: Included: error %d", i, e)
		}
		if _, e := Same(x.a, x.b); e != api.OK {
			t.Errorf("%d: Same: error %d", i, e)
		}
	}
	if n := accepted(t)(Intersect(cycle(19, 3), cycle(21, 5))); n.States != 399 || !same(n.Accept, ints(383)) {
		t.Error(n.States, n.Accept)
	}
	if u := accepted(t)(Union(cycle(4, 0), cycle(4, 2))); u.States != 2 || !same(u.Accept, ints(0)) {
		t.Error(u)
	}
}
