package fair

import (
	"testing"

	"familycheck/api"
)

// P9.6: the sum of the weights of the processes.
func TestWeight(t *testing.T) {
	cast, kinds, four := family(t, castText), family(t, kindsText), family(t, fourText)
	for i, x := range []struct {
		p       api.Protocol
		weights []int
		e       api.Element
		want    int
	}{
		{cast, ints(2, 1), element(0, 3, 4), 10},
		{cast, ints(0, 6), element(0, 3, 4), 24},
		{cast, ints(0, 6), element(0, 3, 0), 0},
		{cast, ints(0, 0), element(0, 3, 4), 0},
		{kinds, ints(1, 2, 3), element(1, 4, 0, 1), 7},
		{four, ints(6, 6, 6, 6), element(2, api.MaxParameter, api.MaxParameter, api.MaxParameter, api.MaxParameter), 24 * api.MaxParameter},
	} {
		if n, e := Weight(x.p, x.weights, x.e); n != x.want || e != api.OK {
			t.Errorf("%d: %d, error %d", i, n, e)
		}
	}
}

// P9.6: which rules are raising, lowering and neutral.
func TestDirections(t *testing.T) {
	p := family(t, `protocol turns
topology clique
states a b c
initial a
rule go local a b
rule stay local c c
rule two pair a b c a
rule same pair a b a b
rule cast broadcast c a all b c c
rule none broadcast a b all a b c
`)
	for i, x := range []struct {
		weights []int
		want    string // for each rule r (raising), l (lowering) or n (neutral)
	}{
		{ints(0, 0, 0), "nnnnnn"},
		{ints(1, 0, 0), "lnnlrl"},
		{ints(0, 1, 0), "rnrrrr"},
		{ints(0, 0, 1), "nnlnrn"},
		{ints(1, 1, 0), "nnrnrn"},
		{ints(2, 1, 0), "lnrlrl"},
		{ints(1, 1, 1), "nnnnnn"},
		{ints(3, 2, 2), "lnnlrl"},
		{ints(3, 2, 1), "lnrlrl"},
		{ints(6, 5, 0), "lnrlrl"},
		{ints(2, 0, 2), "lnllrl"},
		// The partner gives back what the process loses.
		{ints(2, 1, 1), "lnnlrl"},
		// A response raises, or only the other processes become lighter.
		{ints(0, 1, 1), "rnnrrr"},
		{ints(0, 0, 6), "nnlnrn"},
		{ints(1, 1, 2), "nnlnrn"},
		{ints(0, 2, 3), "rnlrrr"},
		{ints(5, 5, 5), "nnnnnn"},
	} {
		for rule := range p.Rules {
			raised, e := Raising(p, x.weights, rule)
			lowered, e2 := Lowering(p, x.weights, rule)
			want := x.want[rule]
			if raised != (want == 'r') || lowered != (want == 'l') || e != api.OK || e2 != api.OK {
				t.Errorf("%d: rule %d: %v, %v, errors %d, %d, not %c", i, rule, raised, lowered, e, e2, want)
			}
		}
	}
}

// P9.6: the responses of a broadcast count one by one, and only raise.
func TestResponses(t *testing.T) {
	p := family(t, "protocol respond\ntopology clique\nstates a b c\ninitial a\nrule r broadcast a b all a c b\nrule s broadcast a a all a b b\nrule t broadcast a b all b b b\n")
	for i, x := range []struct {
		rule            int
		weights         []int
		raised, lowered bool
	}{
		// r exchanges b and c.
		{0, ints(3, 1, 1), false, true},
		{0, ints(3, 2, 1), true, false},
		{0, ints(3, 1, 2), true, false},
		// s makes processes in c lighter and changes nothing for the one that takes it.
		{1, ints(0, 0, 6), false, false},
		{1, ints(0, 1, 0), true, false},
		{1, ints(0, 3, 3), false, false},
		// t brings all to b.
		{2, ints(1, 0, 0), false, true},
		{2, ints(1, 0, 5), false, true},
		{2, ints(1, 1, 1), false, false},
		{2, ints(2, 1, 0), true, false},
		{2, ints(1, 1, 2), false, false},
	} {
		raised, e := Raising(p, x.weights, x.rule)
		lowered, e2 := Lowering(p, x.weights, x.rule)
		if raised != x.raised || lowered != x.lowered || e != api.OK || e2 != api.OK {
			t.Errorf("%d: %v, %v, errors %d, %d", i, raised, lowered, e, e2)
		}
	}
}

// P9.6: all rules of a source, and (Consequence.) what their steps do to Weight.
func TestDirectionsPlain(t *testing.T) {
	x := newSource(11)
	found := map[int]int{}
	for range 400 {
		p := x.family(t, 4, 4)
		weights := x.weights(p, x.between(1, 6))
		for rule, r := range p.Rules {
			raised, e := Raising(p, weights, rule)
			lowered, e2 := Lowering(p, weights, rule)
			if raised != plainRaising(r, weights) || lowered != plainLowering(r, weights) || e != api.OK || e2 != api.OK {
				t.Fatalf("%v, %v, errors %d, %d: %v %+v", raised, lowered, e, e2, weights, r)
			}
			before := x.element(p, 8)
			old, _ := Weight(p, weights, before)
			for _, after := range plainPostRule(p, rule, before) {
				n, _ := Weight(p, weights, after)
				if n > old && !raised || n >= old && lowered {
					t.Fatalf("from %v to %v: %v, %v: %v %+v", before, after, raised, lowered, weights, r)
				}
				found[map[bool]int{raised: 1, lowered: 2}[true]]++
			}
		}
	}
	if found[0] < 30 || found[1] < 30 || found[2] < 30 {
		t.Error(found)
	}
}

// P9.7: which processes a rule can move.
func TestMoves(t *testing.T) {
	p := family(t, kindsText)
	for i, x := range []struct {
		rule int
		want [3]bool
	}{
		{0, [3]bool{true, false, false}},
		{1, [3]bool{false, true, false}},
		{2, [3]bool{false, false, true}},
		{3, [3]bool{false, true, false}},
		{4, [3]bool{true, false, true}},
		{5, [3]bool{true, false, false}},
		// The one in c that takes the rule, and by their responses those in a and b.
		{6, [3]bool{true, true, true}},
	} {
		for state, want := range x.want {
			if ok, e := Moves(p, x.rule, state); ok != want || e != api.OK {
				t.Errorf("%d: state %d: %v, error %d", i, state, ok, e)
			}
		}
	}
	// Also where the state stays the same.
	still := family(t, "protocol still\ntopology clique\nstates a b c d\ninitial a\nrule r local b b\nrule s pair a a c c\nrule t broadcast d d all a c c d\n")
	for rule, want := range [][4]bool{{false, true, false, false}, {true, false, true, false}, {false, true, false, true}} {
		for state := range 4 {
			if ok, e := Moves(still, rule, state); ok != want[state] || e != api.OK {
				t.Errorf("rule %d, state %d: %v, error %d", rule, state, ok, e)
			}
		}
	}
}

// P9.7: all rules of a source; no step changes the state of a process that the rule does not move.
func TestMovesPlain(t *testing.T) {
	x := newSource(12)
	for range 300 {
		p := x.family(t, 4, 4)
		for rule, r := range p.Rules {
			for state := range p.States {
				if ok, e := Moves(p, rule, state); ok != plainMoves(r, state) || e != api.OK {
					t.Fatalf("state %d: %v, error %d: %+v", state, ok, e, r)
				}
			}
			plainSteps(p, rule, x.element(p, 8), func(before, after []int, _ int) {
				for process, state := range before {
					if ok, _ := Moves(p, rule, state); !ok && after[process] != state {
						t.Fatalf("state %d: %+v", state, r)
					}
				}
			})
		}
	}
}
