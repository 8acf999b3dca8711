package tree

import (
	"testing"

	"familycheck/api"
	"familycheck/unfold"
)

// along reads the letters on the path of first children from the leaf to the root: a text for each letter has the next state for each state. It begins in state 0.
func along(accept []int, letters ...string) api.TreeAutomaton {
	states := len(letters[0])
	a := api.TreeAutomaton{Letters: len(letters), States: states, Accept: accept}
	for letter, text := range letters {
		for i, x := range text {
			if i == 0 {
				a.Leaves = append(a.Leaves, api.Leaf{Letter: letter, To: int(x - '0')})
			}
			for j := range states {
				a.Branches = append(a.Branches, api.Branch{Letter: letter, First: i, Second: j, To: int(x - '0')})
			}
		}
	}
	return a
}

// P7.8: what contexts of each depth tell apart.
func TestMerge(t *testing.T) {
	all := api.TreeAutomaton{Letters: 1, States: 1, Accept: ints(0), Leaves: []api.Leaf{{}}, Branches: []api.Branch{{}}}
	full := cycle(5, 0)
	full.Accept = ints(0, 1, 2, 3, 4)
	// The numbers of leaves modulo 5. At depth 0 it is only known whether they are accepted.
	zero := api.TreeAutomaton{Letters: 1, States: 2, Accept: ints(1), Leaves: []api.Leaf{{}}}
	for _, x := range [][3]int{{0, 0, 0}, {0, 0, 1}, {0, 1, 0}, {1, 0, 0}, {1, 1, 1}} {
		zero.Branches = append(zero.Branches, api.Branch{First: x[0], Second: x[1], To: x[2]})
	}
	for i, x := range []struct {
		a     api.TreeAutomaton
		depth int
		want  api.TreeAutomaton
	}{
		{full, 0, all},
		{full, 8, all},
		{api.TreeAutomaton{Letters: 1}, 0, accepted(t)(Complement(all))},
		{api.TreeAutomaton{Letters: 1}, 8, accepted(t)(Complement(all))},
		{cycle(5, 0), 0, plainCanonical(zero)},
		{cycle(5, 0), 1, plainCanonical(cycle(5, 0))}, // some sibling tells any two remainders apart
		{cycle(64, 0), 1, plainCanonical(cycle(64, 0))},
		{comb(1), 0, plainMerge(comb(1), 0)},
		{comb(6), 5, plainMerge(comb(6), 5)},
		{comb(6), 6, plainCanonical(comb(6))},
		{far(3), 1, plainMerge(far(3), 1)},
		{far(3), 2, plainCanonical(far(3))},
	} {
		got, e := Merge(x.a, x.depth)
		if e != api.OK || !same(got, x.want) {
			t.Errorf("%d: %v, not %v, error %d", i, got, x.want, e)
		}
	}
	// A state is told apart if the root can be so many levels above it. The leaf is, as a second child.
	for depth := range 9 {
		got := accepted(t)(Merge(comb(9), depth))
		if want := plainMerge(comb(9), depth); !same(got, want) || same(got, plainCanonical(comb(9))) != (depth == 8) {
			t.Errorf("%d: %v, not %v", depth, got, want)
		}
	}
	for _, depth := range []int{minInt, -1, 9, maxInt} {
		for _, a := range []api.TreeAutomaton{comb(1), far(7)} {
			if got, e := Merge(a, depth); e != api.ErrArg || !isZero(got) {
				t.Error(depth, got, e)
			}
		}
	}
}

// P7.8: siblings on both sides and of all letters tell states apart.
func TestMergeSides(t *testing.T) {
	for i := range 8 {
		// Only the branch with the letter i%2 and a state as the second or first child is special.
		a := digits(4, ints(3), "01111111111111111", "11111111111111111")
		letter, side := i%2, i/2%2
		other := i / 4 // the sibling
		for _, b := range [][3]int{{0, other, 2}, {2, other, 3}} {
			first, second := b[0], b[1]
			if side == 1 {
				first, second = second, first
			}
			a.Branches[letter*16+first*4+second].To = b[2]
		}
		for depth := range 4 {
			if got, want := accepted(t)(Merge(a, depth)), plainMerge(a, depth); !same(got, want) {
				t.Errorf("%d, %d: %v, not %v", i, depth, got, want)
			}
		}
	}
}

// P7.8: the limit of subsets is that of a and that of the merged automaton.
func TestMergeLimit(t *testing.T) {
	// After the first letter 1 so many letters follow, of any kind. Short contexts do not tell whether it has been met.
	row := func(length int) api.TreeAutomaton {
		zero, one := []byte("01"), []byte("12")
		for i := 2; i <= length+2; i++ {
			next := byte('0' + min(i+1, length+2)) // the last state is for longer paths
			zero, one = append(zero, next), append(one, next)
		}
		return along(ints(length+1), string(zero), string(one))
	}
	for i, x := range []struct {
		a     api.TreeAutomaton
		depth int
		want  api.Errno
	}{
		{far(7), 0, api.ErrLarge},
		{comb(62), 0, api.OK},
		{comb(63), 0, api.ErrLarge},
		{row(6), 5, api.OK},
		{row(7), 6, api.ErrLarge},
		{row(7), 5, api.OK},
	} {
		if got, e := Merge(x.a, x.depth); e != x.want || e != api.OK && !isZero(got) {
			t.Errorf("%d: error %d, %d states", i, e, got.States)
		}
	}
}

// P7.8: small automata of all forms against telling states apart pair by pair.
func TestMergePlainly(t *testing.T) {
	x := newSource(9)
	larger, large := 0, 0
	for range 600 {
		letters := x.between(1, 2)
		a := x.complete(letters, 5)
		if x.IntN(4) == 0 {
			a = x.automaton(letters, 3)
		}
		for depth := range 5 {
			got, e := Merge(a, depth)
			subsets := plainSubsets(plainMerged(a, depth))
			if len(subsets.accept) > api.MaxAutomaton {
				large++
				if e != api.ErrLarge || !isZero(got) {
					t.Fatalf("depth %d: %v, error %d: %v", depth, got, e, a)
				}
				continue
			}
			if want := plainMerge(a, depth); e != api.OK || !same(got, want) {
				t.Fatalf("depth %d: %v, not %v, error %d: %v", depth, got, want, e, a)
			}
			if yes, e := Included(a, got); !yes || e != api.OK {
				t.Fatalf("depth %d: error %d: %v", depth, e, a)
			}
			if !same(got, accepted(t)(Minimal(a))) {
				larger++
			}
		}
	}
	if larger < 100 {
		t.Error(larger, large)
	}
}

// P7.9: a family round by round, and the numbers of rounds and the depths that are allowed.
func TestForward(t *testing.T) {
	p := family(t, tokenText)
	q := property(t, p, "property q never count 2 tk")
	one := accepted(t)(Minimal(oneToken()))
	for _, rounds := range []int{2, 3, 100} {
		if a, done, e := Forward(p, q, 1, rounds); e != api.OK || !done || !same(a, one) {
			t.Error(rounds, a, done, e)
		}
	}
	if a, done, e := Forward(p, q, 1, 1); e != api.OK || done || a.States != 4 {
		t.Error(a, done, e)
	}
	for _, rounds := range []int{0, -1, minInt} {
		first := accepted(t)(Merge(accepted(t)(InitialTrees(p, q)), 1))
		if a, done, e := Forward(p, q, 1, rounds); e != api.OK || done || !same(a, first) {
			t.Error(rounds, a, done, e)
		}
	}
	for _, x := range [][2]int{{-1, 5}, {9, 5}, {minInt, 0}, {maxInt, 0}, {1, 101}, {1, maxInt}, {-1, 101}} {
		if a, done, e := Forward(p, q, x[0], x[1]); e != api.ErrArg || done || !isZero(a) {
			t.Error(x, a, done, e)
		}
		if k, a, e := Prove(p, q, x[0], x[1]); e != api.ErrArg || k != api.Open || !isZero(a) {
			t.Error(x, k, a, e)
		}
	}
	for _, depth := range []int{0, 8} {
		if _, _, e := Forward(p, q, depth, api.MaxRounds); e == api.ErrArg {
			t.Error(depth, e)
		}
	}
	// Without rules the first language is the last one, whatever rounds is.
	p.Rules = nil
	if a, done, e := Forward(p, q, 8, minInt); e != api.OK || !done || !same(a, accepted(t)(InitialTrees(p, q))) {
		t.Error(a, done, e)
	}
}

// plainForward iterates as P7.9 says.
func plainForward(t *testing.T, p api.Protocol, q api.Property, depth, rounds int) (api.TreeAutomaton, bool, api.Errno) {
	reached := plainMerge(accepted(t)(InitialTrees(p, q)), depth)
	for k := 0; ; k++ {
		list := []api.TreeAutomaton{reached}
		for _, r := range p.Rules {
			post := plainCanonical(plainPost(r, reached))
			if post.States > api.MaxForward {
				return api.TreeAutomaton{}, false, api.ErrLarge
			}
			list = append(list, post)
		}
		all := plainCanonical(plainUnion(list...))
		next := plainMerge(all, depth)
		switch {
		case all.States > api.MaxForward || next.States > api.MaxForward:
			return api.TreeAutomaton{}, false, api.ErrLarge
		case same(next, reached):
			return reached, true, api.OK
		case k == rounds:
			return reached, false, api.OK
		}
		reached = next
	}
}

// P7.9: up to MaxForward states of each of the automata, in the rounds that are needed.
func TestForwardLimit(t *testing.T) {
	const two = "states a b\n"
	const three = "states a b c\n"
	for i, x := range []struct {
		text  string
		depth int
		large int // the first number of rounds that needs too large an automaton; -1: none
	}{
		{three + "initial a\nrule r neighbor a c\n", 1, 6},                                                                                 // 9 states of what a rule makes
		{"states a b c d e\ninitial a b c d e\nleader d e\nrule r neighbor e a left a b c right b c e\n", 0, 0},                            // the same
		{two + "initial a\nleader a b\nrule r pass b a a b child\n", 4, -1},                                                                // 8 states of what a rule makes, and of the union
		{two + "initial a\nleader b\nrule r pass a a a b parent\nrule s pass b a b b parent\n", 1, 2},                                      // 9 states of the union
		{two + "initial a\nleader a b\nrule r pass a b b b parent\nrule s pass a b a b child\n", 1, 1},                                     // the same, but the next language has 6
		{three + "initial a c\nleader a\nrule r pass a c c b parent\nrule s pass b b a b child\nrule t neighbor a c parent a b c\n", 1, 1}, // 9 states of the next language
		{two + "initial a\nleader a b\nrule r pass a b a a parent\n", 1, 2},                                                                // 8 states of a language before
	} {
		p := family(t, "protocol p\ntopology tree\n"+x.text)
		q := property(t, p, "property q never count 3 a")
		for rounds := range 8 {
			got, done, e := Forward(p, q, x.depth, rounds)
			want, wantDone, wantError := plainForward(t, p, q, x.depth, rounds)
			if e != wantError || done != wantDone || !same(got, want) || e != api.OK && !isZero(got) {
				t.Errorf("%d: rounds %d: %v, %v, error %d, not %v, %v, error %d", i, rounds, got, done, e, want, wantDone, wantError)
			}
			if (e == api.ErrLarge) != (x.large >= 0 && rounds >= x.large) {
				t.Errorf("%d: rounds %d: error %d", i, rounds, e)
			}
			if e == api.ErrLarge {
				break
			}
		}
	}
}

// P7.9: small families against plain iterations.
func TestForwardPlainly(t *testing.T) {
	x := newSource(10)
	seen := map[string]int{}
	for i := range 410 {
		p := x.family(t, 3, 2)
		if i >= 400 {
			p = x.family(t, 5, 6)
		}
		q := x.property(t, p)
		for depth := range 3 {
			rounds := x.between(0, 4)
			got, done, e := Forward(p, q, depth, rounds)
			want, wantDone, wantError := plainForward(t, p, q, depth, rounds)
			if e != wantError || done != wantDone || !same(got, want) {
				t.Fatalf("depth %d, rounds %d: %v, %v, %d, not %v, %v, %d: %+v, %+v", depth, rounds, got, done, e, want, wantDone, wantError, p, q)
			}
			switch {
			case e == api.ErrLarge:
				seen["large"]++
			case !done:
				seen["open"]++
			case !same(got, accepted(t)(Merge(accepted(t)(InitialTrees(p, q)), depth))):
				seen["later"]++
			}
		}
	}
	if seen["large"] < 20 || seen["open"] < 10 || seen["later"] < 20 {
		t.Error(seen)
	}
}

// laterText is a family with too large automata at depth 0.
const laterText = "protocol p\ntopology tree\nstates a b c\ninitial a\nleader b\nrule r pass b c a a child\n"

// P7.12: the document's example and others, at the depths that they need.
func TestProve(t *testing.T) {
	for i, x := range []struct {
		text, property string
		depth          int // the first that suffices; -1: none
	}{
		{tokenText, "property q never count 2 tk", 1},
		{tokenText, "property q never adjacent tk tk", 1},
		{tokenText, "property q never count 1 tk", -1},
		{replaced(t, tokenText, "initial no\n", "initial tk no\n"), "property q never count 2 tk", -1},
		{replaced(t, tokenText, "initial no\n", "initial tk no\n"), "property q never start no count 2 tk", 1},
		{laterText, "property q never adjacent a c", 1},
		{firstText, "property q never adjacent one zero", -1},
		{firstText, "property q never start zero adjacent one zero", 0},
		{firstText, "property q never start zero count 1 one", 0},
		{replaced(t, firstText, "left one", "right one"), "property q never adjacent one zero", -1},
	} {
		p := family(t, x.text)
		q := property(t, p, x.property)
		for depth := range 4 {
			kind, a, e := Prove(p, q, depth, 20)
			if want := x.depth >= 0 && depth >= x.depth; e != api.OK || (kind == api.Holds) != want || kind == api.Violated || CheckAutomaton(p, q, a) != want {
				t.Errorf("%d: depth %d: %d, %v, error %d", i, depth, kind, a, e)
			}
			if kind == api.Open && !isZero(a) {
				t.Errorf("%d: depth %d: %v", i, depth, a)
			}
			if f, done, e := Forward(p, q, depth, 20); depth == x.depth && (e != api.OK || !done || !same(f, a)) {
				t.Errorf("%d: %v, %v, error %d", i, f, done, e)
			}
		}
	}
	p := family(t, laterText)
	if a, done, e := Forward(p, property(t, p, "property q never adjacent a c"), 0, 20); e != api.ErrLarge || done || !isZero(a) {
		t.Error(a, done, e)
	}
	p = family(t, firstText)
	size, _, found, e := unfold.Smallest(p, property(t, p, "property q never adjacent one zero"), 5)
	if size.N != 3 || !found || e != api.OK {
		t.Error(size, found, e)
	}
	p = family(t, tokenText)
	q := property(t, p, "property q never count 2 tk")
	for _, rounds := range []int{0, -1, minInt} {
		if kind, a, e := Prove(p, q, 8, rounds); kind != api.Open || !isZero(a) || e != api.OK {
			t.Error(rounds, kind, a, e)
		}
	}
	if kind, _, e := Prove(p, q, 8, api.MaxRounds); kind != api.Holds || e != api.OK {
		t.Error(kind, e)
	}
}

// P7.11, P7.12, S1: Prove takes the first depth that succeeds; its automata are accepted, and what they prove is violated at no small size.
func TestProofs(t *testing.T) {
	x := newSource(11)
	seen := map[int]int{}
	for range 1500 {
		p := x.family(t, 3, 3)
		q := x.property(t, p)
		depth, rounds := x.between(0, 3), x.between(0, 12)
		kind, a, e := Prove(p, q, depth, rounds)
		want, wantKind := api.TreeAutomaton{}, api.Open
		for d := 0; d <= depth && wantKind == api.Open; d++ {
			f, done, e := Forward(p, q, d, rounds)
			if e == api.OK && done && len(plainCanonical(plainPairs(f, accepted(t)(BadTrees(p, q)), func(x, y bool) bool { return x && y })).Accept) == 0 {
				want, wantKind = f, api.Holds
			}
		}
		if kind != wantKind || !same(a, want) || e != api.OK {
			t.Fatalf("%d, %v, error %d, not %d, %v: %+v, %+v", kind, a, e, wantKind, want, p, q)
		}
		seen[kind]++
		if kind == api.Open {
			continue
		}
		if !CheckAutomaton(p, q, a) {
			t.Fatalf("%v: %+v, %+v", a, p, q)
		}
		if _, run, found, e := unfold.Smallest(p, q, 5); e != api.OK || found {
			t.Fatalf("%v, error %d: %+v, %+v", run, e, p, q)
		}
	}
	if seen[api.Open] < 200 || seen[api.Holds] < 200 {
		t.Error(seen)
	}
}
