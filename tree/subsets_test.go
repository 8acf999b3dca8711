package tree

import (
	"testing"

	"familycheck/api"
)

// networks calls use with the networks of steps and of automata of all forms that have few subsets, together with these and the number of states of the canonical automaton.
func networks(t *testing.T, seed uint64, count int, use func(n network, subsets []set, states int)) {
	t.Helper()
	x := newSource(seed)
	for range count {
		p := x.family(t, 2, 2)
		a, ok := certificate(p, x.complete(len(p.States), 4))
		if !ok {
			t.Fatal("no certificate")
		}
		n := stepsFrom(p.Rules, a.canonical(), x.IntN(2) == 0)
		if x.IntN(3) == 0 {
			n = networkOf(x.automaton(2, 5))
		}
		var subsets []set
		all, ok := tableOf(n.subsets(), func(known []set) bool {
			subsets = known
			return len(known) > 120
		})
		if ok {
			use(n, subsets, all.canonical().states())
		}
	}
}

// P7.7, P7.9: a language has too many states only if its canonical automaton has.
func TestDiffer(t *testing.T) {
	shown := map[bool]int{}
	networks(t, 14, 1000, func(n network, subsets []set, states int) {
		for _, most := range []int{1, 2, 4, states - 2, states - 1, states, states + 1} {
			if most < 1 {
				continue
			}
			got := n.differ(subsets, most)
			if got && states <= most {
				t.Fatalf("more than %d: %d states, %v", most, states, n)
			}
			if states > most {
				shown[got]++
			}
		}
	})
	if shown[true] < 1000 || shown[false] > shown[true]/20 {
		t.Error(shown)
	}
}

// P7.7: what gets the same form is not told apart, so the language stays the same.
func TestOneForm(t *testing.T) {
	fewer := 0
	networks(t, 15, 500, func(n network, subsets []set, states int) {
		form := n.oneForm()
		v := n.subsets()
		v.leaf = func(letter int) set { return form(n.leaf[letter]) }
		v.branch = func(letter int, first, second set) set { return form(n.after(letter, first, second)) }
		got, _ := tableOf(v, nil)
		want, e := n.canonical(api.MaxAutomaton)
		if e == api.OK && !got.canonical().isEqual(want) {
			t.Fatalf("%v", n)
		}
		if got.states() > len(subsets) || got.states() < states {
			t.Fatalf("%d values for %d subsets and %d states", got.states(), len(subsets), states)
		}
		if got.states() < len(subsets) {
			fewer++
		}
		for _, s := range subsets {
			if form(form(s)) != form(s) {
				t.Fatalf("%v: %v", s, n)
			}
		}
	})
	if fewer < 50 {
		t.Error(fewer)
	}
}
