package word

import (
	"testing"

	"familycheck/api"
	"familycheck/unfold"
)

// inRow is the automaton of a row of states, each of which both letters lead on from, after the letters of lead. Its states are told apart from the others by words of length letters.
func inRow(length int) api.Automaton {
	a := api.Automaton{Letters: 2, States: length + 2, Start: ints(0), Accept: ints(length + 1)}
	a.Edges = []api.Edge{{}, {Letter: 1, To: 1}, {From: 1}, {From: 1, Letter: 1, To: 2}}
	for i := 2; i <= length; i++ {
		a.Edges = append(a.Edges, api.Edge{From: i, To: i + 1}, api.Edge{From: i, Letter: 1, To: i + 1})
	}
	return a
}

// P6.11: the document's example, and what words of each length tell apart.
func TestMerge(t *testing.T) {
	all := api.Automaton{Letters: 2, States: 1, Start: ints(0), Accept: ints(0), Edges: []api.Edge{{}, {Letter: 1}}}
	full := api.Automaton{Letters: 2, States: 3, Start: ints(0), Accept: ints(2, 1, 0), Edges: []api.Edge{{To: 1}, {Letter: 1, To: 2}, {From: 1, To: 1}, {From: 1, Letter: 1}, {From: 2, To: 2}, {From: 2, Letter: 1, To: 1}}}
	for i, x := range []struct {
		a     api.Automaton
		depth int
		want  api.Automaton
	}{
		{full, 0, all},
		{full, 8, all},
		{api.Automaton{Letters: 1}, 0, api.Automaton{Letters: 1, States: 1, Start: ints(0), Edges: []api.Edge{{}}}},
		// The word of three letters: at each depth below 3 the start is like the state after all longer words.
		{chain(1, 3), 0, api.Automaton{Letters: 1, States: 2, Start: ints(0), Accept: ints(1), Edges: []api.Edge{{To: 1}, {From: 1, To: 1}}}},
		{chain(1, 3), 1, plainCanonical(api.Automaton{Letters: 1, States: 3, Start: ints(0), Accept: ints(2), Edges: []api.Edge{{}, {To: 1}, {From: 1, To: 2}, {From: 2}}})},
		{chain(1, 3), 2, plainCanonical(api.Automaton{Letters: 1, States: 4, Start: ints(0), Accept: ints(3), Edges: []api.Edge{{}, {To: 1}, {From: 1, To: 2}, {From: 2, To: 3}, {From: 3}}})},
		{chain(1, 3), 3, plainCanonical(chain(1, 3))},
		{chain(1, 8), 8, plainCanonical(chain(1, 8))},
		{far(3), 3, plainCanonical(far(3))},
		{cycle(5, 0), 4, cycle(5, 0)},
		{cycle(400, 0), 0, plainCanonical(api.Automaton{Letters: 1, States: 2, Start: ints(0), Accept: ints(0), Edges: []api.Edge{{To: 1}, {From: 1, To: 1}, {From: 1}}})},
	} {
		got, e := Merge(x.a, x.depth)
		if e != api.OK || !same(got, x.want) {
			t.Errorf("%d: %v, not %v, error %d", i, got, x.want, e)
		}
	}
	for _, depth := range []int{minInt, -1, 9, maxInt} {
		for _, a := range []api.Automaton{chain(1, 3), far(9)} {
			if got, e := Merge(a, depth); e != api.ErrArg || !isZero(got) {
				t.Error(depth, got, e)
			}
		}
	}
}

// P6.11: the limit of subsets is that of a and that of the merged automaton.
func TestMergeLimit(t *testing.T) {
	for i, x := range []struct {
		a     api.Automaton
		depth int
		want  api.Errno
	}{
		{far(9), 0, api.ErrLarge},
		{chain(1, 398), 0, api.OK},
		{chain(1, 399), 0, api.ErrLarge},
		{inRow(8), 7, api.OK},       // 256 subsets of the merged automaton
		{inRow(9), 8, api.ErrLarge}, // 512
		{inRow(9), 7, api.OK},
	} {
		if got, e := Merge(x.a, x.depth); e != x.want || e != api.OK && !isZero(got) {
			t.Errorf("%d: error %d", i, e)
		}
	}
	// Short words tell all of its states apart, so merging changes nothing: there are MaxMachine subsets.
	wide := cycle(api.MaxMachine, 0)
	wide.Letters = 2
	x := newSource(13)
	for i := range wide.States {
		wide.Edges = append(wide.Edges, api.Edge{From: i, Letter: 1, To: x.IntN(wide.States)})
	}
	wide.Accept = x.someSet(wide.States)
	if a, e := Merge(wide, 8); e != api.OK || a.States != api.MaxMachine || !same(a, accepted(t)(Minimal(wide))) {
		t.Error(a.States, e)
	}
	if a := accepted(t)(Minimal(inRow(9))); a.States != 12 {
		t.Error(a.States)
	}
	if a := accepted(t)(Merge(inRow(8), 7)); a.States < 200 {
		t.Error(a.States)
	}
}

// P6.11: small automata of all forms against trying all words of at most depth letters.
func TestMergePlainly(t *testing.T) {
	x := newSource(8)
	larger := 0
	for range 500 {
		letters := x.between(1, 2)
		a := x.automaton(letters, 5)
		if x.IntN(2) == 0 {
			a = x.complete(letters, 6)
		}
		for depth := range 5 {
			got := accepted(t)(Merge(a, depth))
			if want := plainMerge(a, depth); !same(got, want) {
				t.Fatalf("depth %d: %v, not %v: %v", depth, got, want, a)
			}
			if yes, w, e := Included(a, got); !yes || e != api.OK {
				t.Fatalf("depth %d: %v, error %d: %v", depth, w, e, a)
			}
			if !same(got, accepted(t)(Minimal(a))) {
				larger++
			}
		}
	}
	if larger < 100 {
		t.Error(larger)
	}
}

// P6.12: the document's example, round by round.
func TestForward(t *testing.T) {
	p := family(t, tokText)
	q := property(t, p, "property q never count 2 tk")
	one := accepted(t)(Minimal(api.Automaton{Letters: 2, States: 2, Start: ints(0), Accept: ints(1), Edges: []api.Edge{{Letter: 1}, {To: 1}, {From: 1, Letter: 1, To: 1}}}))
	for _, rounds := range []int{1, 2, 100} {
		if a, done, e := Forward(p, q, 1, rounds); e != api.OK || !done || !same(a, one) {
			t.Error(rounds, a, done, e)
		}
	}
	for _, rounds := range []int{0, -1, minInt} {
		first := accepted(t)(Merge(accepted(t)(InitialWords(p, q)), 1))
		if a, done, e := Forward(p, q, 1, rounds); e != api.OK || done || !same(a, first) {
			t.Error(rounds, a, done, e)
		}
	}
	for _, x := range [][2]int{{-1, 5}, {9, 5}, {minInt, 0}, {maxInt, 0}, {1, 101}, {1, maxInt}, {-1, 101}} {
		if a, done, e := Forward(p, q, x[0], x[1]); e != api.ErrArg || done || !isZero(a) {
			t.Error(x, a, done, e)
		}
		if k, a, e := Prove(p, q, x[0], x[1]); e != api.ErrArg || k != api.Open || !isZero(a) {
			t.Error(x, k, a, e)
		}
	}
	for _, depth := range []int{0, 8} {
		if _, _, e := Forward(p, q, depth, api.MaxRounds); e == api.ErrArg {
			t.Error(depth, e)
		}
	}
	// Without rules the first language is the last one, whatever rounds is.
	p.Rules = nil
	if a, done, e := Forward(p, q, 8, minInt); e != api.OK || !done || !same(a, accepted(t)(InitialWords(p, q))) {
		t.Error(a, done, e)
	}
}

// largeText has a step relation of which some image has more than MaxMachine subsets of pairs, but a small canonical automaton.
const largeText = `protocol p
topology ring
states a b c
initial c
rule r0 neighbor b a
rule r1 pass c c b a left
rule r2 neighbor a b left b right a b
rule r3 neighbor c b right b c
rule r4 neighbor c c left c right c
`

// P6.12: the languages are the exact ones, also where Image returns ErrLarge for the step relation.
func TestForwardExact(t *testing.T) {
	p := family(t, largeText)
	q := property(t, p, "property q never count 1 a")
	got, done, e := Forward(p, q, 2, 100)
	if e != api.OK || !done {
		t.Fatal(got, done, e)
	}
	if want, done, e := plainForward(t, p, q, 2, 100); e != api.OK || !done || !same(got, want) {
		t.Error(got, want, done, e)
	}
}

// plainForward iterates as P6.12 says.
func plainForward(t *testing.T, p api.Protocol, q api.Property, depth, rounds int) (api.Automaton, bool, api.Errno) {
	steps := related(t)(StepRelation(p))
	reached := plainMerge(accepted(t)(InitialWords(p, q)), depth)
	for k := 0; ; k++ {
		image := plainCanonical(plainImage(steps, reached))
		all := plainCanonical(plainUnion(reached, image))
		if reached.States > api.MaxForward || image.States > api.MaxForward || all.States > api.MaxForward {
			return api.Automaton{}, false, api.ErrLarge
		}
		next := plainMerge(all, depth)
		switch {
		case next.States > api.MaxForward:
			return api.Automaton{}, false, api.ErrLarge
		case same(next, reached):
			return reached, true, api.OK
		case k == rounds:
			return reached, false, api.OK
		}
		reached = next
	}
}

// P6.12: up to MaxForward states of each of the automata, in the rounds that are needed.
func TestForwardLimit(t *testing.T) {
	const two = "states a b\ninitial a\n"
	const three = "states a b c\ninitial b\n"
	for i, x := range []struct {
		text  string
		depth int
		large int // the first number of rounds that needs too large an automaton; -1: none
	}{
		{"ring\n" + two + "rule r pass b a a b left\n", 0, -1},                                      // 8 states of the image
		{"ring\n" + two + "rule r pass a b b b right\n", 0, 0},                                      // 9 states of the image
		{"ring\n" + two + "rule r neighbor a b\n", 4, -1},                                           // 8 states of the union
		{"ring\n" + two + "rule r neighbor a b\n", 5, 5},                                            // 9 states of the union
		{"line\n" + three + "leader c\nrule r pass b a c c left\nrule s neighbor a c\n", 4, -1},     // 8 states of a language
		{"line\n" + three + "rule r pass b a b a right\nrule s pass a c a c left\n", 1, 1},          // too many states of the language after the last one
		{"line\n" + two + "rule r pass a a a b left\n", 3, 2},                                       // 9 states of the union
		{"ring\n" + three + "rule r pass a a a c left\nrule s neighbor b b left b right b\n", 0, 0}, // a step that changes nothing
	} {
		p := family(t, "protocol p\ntopology "+x.text)
		q := property(t, p, "property q never count 3 a")
		for rounds := range 7 {
			got, done, e := Forward(p, q, x.depth, rounds)
			want, wantDone, wantError := plainForward(t, p, q, x.depth, rounds)
			if e != wantError || done != wantDone || !same(got, want) || e != api.OK && !isZero(got) {
				t.Errorf("%d: rounds %d: %v, %v, error %d, not %v, %v, error %d", i, rounds, got, done, e, want, wantDone, wantError)
			}
			if (e == api.ErrLarge) != (x.large >= 0 && rounds >= x.large) {
				t.Errorf("%d: rounds %d: error %d", i, rounds, e)
			}
		}
	}
}

// P6.12: small families against plain iterations.
func TestForwardPlainly(t *testing.T) {
	x := newSource(9)
	seen := map[string]int{}
	for range 1500 {
		p := x.family(t, 3, 2)
		q := x.property(t, p)
		for depth := range 4 {
			rounds := x.between(0, 4)
			got, done, e := Forward(p, q, depth, rounds)
			want, wantDone, wantError := plainForward(t, p, q, depth, rounds)
			if e != wantError || done != wantDone || !same(got, want) {
				t.Fatalf("depth %d, rounds %d: %v, %v, %d, not %v, %v, %d: %+v, %+v", depth, rounds, got, done, e, want, wantDone, wantError, p, q)
			}
			switch {
			case e == api.ErrLarge:
				seen["large"]++
			case !done:
				seen["open"]++
			case !same(got, accepted(t)(Merge(accepted(t)(InitialWords(p, q)), depth))):
				seen["later"]++
			}
		}
	}
	if seen["large"] < 50 || seen["open"] < 20 || seen["later"] < 50 {
		t.Error(seen)
	}
}

// P6.15: families with and without proofs, at the depths that they need.
func TestProve(t *testing.T) {
	const ringText = "protocol p\ntopology ring\nstates a b c\ninitial b\nleader a\nrule r0 neighbor a b right b c\n"
	for i, x := range []struct {
		text, property string
		depth          int // the first that suffices; -1: none
		large          bool
	}{
		{tokText, "property q never count 2 tk", 1, false},
		{tokText, "property q never adjacent tk tk", -1, false}, // a ring of one process
		{tokText, "property q never count 2 tk adjacent tk tk", 1, false},
		{replaced(t, tokText, "initial no\n", "initial tk no\n"), "property q never count 2 tk", -1, false},
		{replaced(t, tokText, "initial no\n", "initial tk no\n"), "property q never start no count 2 tk", 1, false},
		{ringText, "property q never count 1 c", 1, true},
		{ringText, "property q never count 2 a", 1, true},
		{"protocol p\ntopology ring\nstates a b\ninitial a\nrule r0 neighbor a a left a right a\n", "property q never count 1 b", 1, true},
	} {
		p := family(t, x.text)
		q := property(t, p, x.property)
		large := false
		for depth := range 4 {
			kind, a, e := Prove(p, q, depth, 20)
			if want := x.depth >= 0 && depth >= x.depth; e != api.OK || (kind == api.Holds) != want || kind == api.Violated || CheckAutomaton(p, q, a) != want {
				t.Errorf("%d: depth %d: %d, %v, error %d", i, depth, kind, a, e)
			}
			if kind == api.Open && !isZero(a) {
				t.Errorf("%d: depth %d: %v", i, depth, a)
			}
			if f, done, e := Forward(p, q, depth, 20); depth == x.depth && (e != api.OK || !done || !same(f, a)) {
				t.Errorf("%d: %v, %v, error %d", i, f, done, e)
			} else if depth < x.depth {
				large = large || e == api.ErrLarge
			}
		}
		if large != x.large {
			t.Errorf("%d: %v", i, large)
		}
	}
	p := family(t, tokText)
	q := property(t, p, "property q never count 2 tk")
	for _, rounds := range []int{0, -1, minInt} {
		if kind, a, e := Prove(p, q, 8, rounds); kind != api.Open || !isZero(a) || e != api.OK {
			t.Error(rounds, kind, a, e)
		}
	}
	if kind, _, e := Prove(p, q, 8, api.MaxRounds); kind != api.Holds || e != api.OK {
		t.Error(kind, e)
	}
}

// P6.14, P6.15, S1: Prove takes the first depth that succeeds, its automata are accepted, and what they prove is violated at no small size.
func TestProofs(t *testing.T) {
	x := newSource(10)
	seen := map[int]int{}
	skipped := 0
	for range 2000 {
		p := x.family(t, 3, 3)
		q := x.property(t, p)
		depth, rounds := x.between(0, 3), x.between(0, 12)
		kind, a, e := Prove(p, q, depth, rounds)
		want, wantKind := api.Automaton{}, api.Open
		large := false
		for d := 0; d <= depth && wantKind == api.Open; d++ {
			f, done, e := Forward(p, q, d, rounds)
			large = large || e == api.ErrLarge
			if e == api.OK && done && len(plainCanonical(plainPairs(f, accepted(t)(BadWords(p, q)), func(x, y bool) bool { return x && y })).Accept) == 0 {
				want, wantKind = f, api.Holds
			}
		}
		if kind != wantKind || !same(a, want) || e != api.OK {
			t.Fatalf("%d, %v, error %d, not %d, %v: %+v, %+v", kind, a, e, wantKind, want, p, q)
		}
		seen[kind]++
		if kind == api.Open {
			continue
		}
		if large {
			skipped++
		}
		if !CheckAutomaton(p, q, a) {
			t.Fatalf("%v: %+v, %+v", a, p, q)
		}
		if _, run, found, e := unfold.Smallest(p, q, 5); e != api.OK || found {
			t.Fatalf("%v, error %d: %+v, %+v", run, e, p, q)
		}
	}
	if seen[api.Open] < 200 || seen[api.Holds] < 200 || skipped < 5 {
		t.Error(seen, skipped)
	}
}
