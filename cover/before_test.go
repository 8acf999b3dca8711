package cover

import (
	"slices"
	"testing"

	"familycheck/api"
)

// P5.6: each kind of rule, with and without reads and writes.
func TestPreRule(t *testing.T) {
	mx, kinds, infect := family(t, mxText), family(t, kindsText), family(t, infectText)
	for i, x := range []struct {
		p    api.Protocol
		rule int
		e    api.Element
		want []api.Element
	}{
		{mx, 1, element(1, 0, 0, 2), elements(element(0, 0, 1, 1))},
		{mx, 1, element(0, 0, 0, 2), nil},
		{mx, 2, element(0, 1, 1, 1), elements(element(1, 0, 1, 2))},
		{mx, 2, element(1, 1, 1, 1), nil},
		{kinds, 0, element(0, 0, 0, 0), elements(element(0, 1, 0, 0))},
		{kinds, 0, element(1, 0, 2, 0), elements(element(1, 1, 1, 0))},
		{kinds, 0, element(0, 2, 0, 5), elements(element(0, 3, 0, 5))},
		{kinds, 1, element(1, 0, 0, 0), elements(element(0, 0, 2, 0), element(0, 1, 1, 0))},
		{kinds, 1, element(1, 0, 0, 2), elements(element(0, 0, 2, 1), element(0, 1, 1, 1))},
		{kinds, 1, element(1, 1, 0, 1), elements(element(0, 1, 1, 0))},
		{kinds, 1, element(1, 0, 3, 1), elements(element(0, 0, 4, 0))},
		{kinds, 1, element(0, 0, 0, 0), nil},
		{kinds, 2, element(0, 0, 1, 0), elements(element(0, 1, 0, 1), element(1, 1, 0, 1))},
		{kinds, 2, element(0, 2, 2, 2), elements(element(0, 2, 1, 3), element(1, 2, 1, 3))},
		{kinds, 2, element(1, 2, 2, 2), nil},
		{kinds, 3, element(1, 0, 3, 0), elements(element(1, 2, 1, 0))},
		{kinds, 3, element(1, 0, 1, 0), elements(element(1, 2, 0, 0))},
		{kinds, 3, element(1, 1, 0, 1), elements(element(1, 3, 0, 1))},
		{kinds, 3, element(0, 0, 3, 0), nil},
		{kinds, 4, element(1, 1, 1, 1), elements(element(0, 1, 0, 2), element(0, 1, 1, 1), element(1, 1, 0, 2), element(1, 1, 1, 1))},
		{kinds, 4, element(1, 0, 0, 0), elements(element(0, 0, 0, 1), element(1, 0, 0, 1))},
		{kinds, 4, element(1, 2, 0, 0), nil},
		{kinds, 4, element(0, 1, 1, 1), nil},
		{infect, 0, element(0, 0, 3), elements(element(0, 1, 2), element(0, 2, 1), element(0, 3, 0))},
		{infect, 0, element(0, 1, 0), nil},
	} {
		if l, e := PreRule(x.p, x.rule, x.e); !same(l, x.want) || e != api.OK {
			t.Errorf("%d: %v, error %d", i, l, e)
		}
	}
}

// P5.6: a rule that leads back to its state, and partners in the same states.
func TestPreRuleSameStates(t *testing.T) {
	p := family(t, "protocol p\ntopology clique\nstates a b\ninitial a\nrule l local a a\nrule e local a a exists a\nrule p pair a a a a\n"+
		"rule q pair a b b b\nrule r pair a b b a\nrule s broadcast a a all a b\nrule t broadcast a b all b a\n")
	for rule, want := range [][]api.Element{
		{element(0, 2, 2)},
		{element(0, 2, 2)},
		{element(0, 2, 2)},
		{element(0, 3, 1)},
		{element(0, 2, 2)},
		{element(0, 2, 2)},
		{element(0, 2, 2)},
	} {
		if l, e := PreRule(p, rule, element(0, 2, 2)); !same(l, want) || e != api.OK {
			t.Errorf("%d: %v, error %d", rule, l, e)
		}
	}
	for rule, want := range []api.Element{
		element(0, 1, 0), element(0, 2, 0), element(0, 2, 0), element(0, 1, 1), element(0, 1, 1), element(0, 1, 0), element(0, 1, 0),
	} {
		if l, e := PreRule(p, rule, element(0, 0, 0)); !same(l, elements(want)) || e != api.OK {
			t.Errorf("%d: %v, error %d", rule, l, e)
		}
	}
}

// spreadText has a rule before whose response a there are the states a and b, and before c there is d, too; before b and d there are none.
const spreadText = `protocol spread
topology clique
states a b c d e
values lo hi
initial a
rule r broadcast e e all a a c c e write lo
`

// P5.6: MaxBasis and MaxParameter themselves and one above them.
func TestPreRuleLimits(t *testing.T) {
	both := family(t, spreadText)
	one := family(t, replaced(t, spreadText, " write lo", " read lo"))
	six := family(t, sixText+"rule r broadcast f f all a a a a a a\n")
	moves := family(t, "protocol p\ntopology clique\nstates a b\ninitial a\nrule l local a b\nrule p pair a b a b\nrule b broadcast a b all a b\nrule s local a a\n")
	const most = api.MaxParameter
	for i, x := range []struct {
		p     api.Protocol
		rule  int
		e     api.Element
		count int
		err   api.Errno
	}{
		{one, 0, element(0, 99, 0, 0, 0, 0), 100, api.OK},
		{one, 0, element(0, 100, 0, 0, 0, 0), 0, api.ErrLarge},
		{one, 0, element(0, 0, 0, 99, 0, 1), 100, api.OK},
		{one, 0, element(0, 0, 0, 100, 0, 0), 0, api.ErrLarge},
		{one, 0, element(0, 9, 0, 9, 0, 0), 100, api.OK},
		{one, 0, element(0, 9, 0, 10, 0, 0), 0, api.ErrLarge},
		{one, 0, element(0, 10, 0, 9, 0, 0), 0, api.ErrLarge},
		{both, 0, element(0, 49, 0, 0, 0, 0), 100, api.OK},
		{both, 0, element(0, 50, 0, 0, 0, 0), 0, api.ErrLarge},
		{both, 0, element(0, 4, 0, 9, 0, 0), 100, api.OK},
		{both, 0, element(0, 4, 0, 10, 0, 0), 0, api.ErrLarge},
		{both, 0, element(0, most, 0, most, 0, most), 0, api.ErrLarge},
		{both, 0, element(1, most, 0, most, 0, most), 0, api.OK},
		{both, 0, element(0, most, 1, most, 0, most), 0, api.OK},
		{both, 0, element(0, most, 0, most, 1, most), 0, api.OK},
		{both, 0, element(0, 0, 0, 0, 0, most), 2, api.OK},
		{six, 0, element(0, 3, 0, 0, 0, 0, 0), 56, api.OK},
		{six, 0, element(0, 4, 0, 0, 0, 0, 0), 0, api.ErrLarge},
		{six, 0, element(0, most, 0, 0, 0, 0, 1), 0, api.ErrLarge},
		{six, 0, element(0, most, 0, 0, 0, 1, 1), 0, api.OK},
		{moves, 0, element(0, most-1, 0), 1, api.OK},
		{moves, 0, element(0, most, 0), 0, api.ErrLarge},
		{moves, 0, element(0, 0, most), 1, api.OK},
		{moves, 1, element(0, most-2, most), 1, api.OK},
		{moves, 1, element(0, most-1, most), 0, api.ErrLarge},
		{moves, 2, element(0, most-1, most), 1, api.OK},
		{moves, 2, element(0, most, most), 0, api.ErrLarge},
		{moves, 3, element(0, most, most), 1, api.OK},
	} {
		if l, e := PreRule(x.p, x.rule, x.e); len(l) != x.count || e != x.err {
			t.Errorf("%d: %d elements, error %d", i, len(l), e)
		}
	}
	for _, rule := range []int{minInt, -1, 4, maxInt} {
		if l, e := PreRule(moves, rule, element(0, most, most)); len(l) != 0 || e != api.ErrRule {
			t.Errorf("rule %d: error %d", rule, e)
		}
	}
}

// P5.6: the union over the rules, its limits, and those of each rule.
func TestPreLimits(t *testing.T) {
	const text = "protocol p\ntopology clique\nstates a b c d\ninitial a\nrule r broadcast c c all a a c d\n"
	alike := family(t, text+"rule s broadcast d d all a a c d\n")
	third := family(t, text+"rule s broadcast d d all a a c d\nrule t local b d\n")
	lower := family(t, text+"rule s broadcast c a all a a c d\n")
	moves := family(t, "protocol p\ntopology clique\nstates a b\ninitial a\nrule l local a b\nrule s local a a\n")
	const most = api.MaxParameter
	for i, x := range []struct {
		p     api.Protocol
		e     api.Element
		count int
		err   api.Errno
	}{
		{alike, element(0, 49, 0, 0, 0), 100, api.OK},
		{alike, element(0, 50, 0, 0, 0), 0, api.ErrLarge},
		{third, element(0, 48, 0, 0, 0), 99, api.OK},
		{third, element(0, 49, 0, 0, 0), 0, api.ErrLarge},
		{lower, element(0, 99, 0, 0, 0), 99, api.OK},
		{lower, element(0, 100, 0, 0, 0), 0, api.ErrLarge},
		{lower, element(0, 100, 1, 0, 0), 0, api.OK},
		{moves, element(0, most-1, 0), 1, api.OK},
		{moves, element(0, most, 0), 0, api.ErrLarge},
		{family(t, sixText), element(0, most, 0, 0, 0, 0, 0), 0, api.OK},
	} {
		if l, e := Pre(x.p, x.e); len(l) != x.count || e != x.err {
			t.Errorf("%d: %d elements, error %d", i, len(l), e)
		}
	}
	// The rule s alone has few and small enough elements, which are below all those of the other rule.
	if l, e := PreRule(lower, 1, element(0, 100, 0, 0, 0)); len(l) != 100 || e != api.OK {
		t.Error(len(l), e)
	}
	if l, e := PreRule(moves, 1, element(0, most, 0)); !same(l, elements(element(0, most, 0))) || e != api.OK {
		t.Error(l, e)
	}
}

// P5.6: the minimal elements are those of a plain search through all elements that may be minimal.
func TestPrePlain(t *testing.T) {
	x := newSource(8)
	sizes := map[int]int{}
	for range 500 {
		p := x.family(t, 4, false)
		before := newPlainBefore(p, 6)
		for range 6 {
			e := x.element(p, 3)
			var all []api.Element
			for rule := range p.Rules {
				want := before.of(rule, e)
				if l, err := PreRule(p, rule, e); !same(l, want) || err != api.OK {
					t.Fatalf("%v, error %d, not %v: %+v %v", l, err, want, p.Rules[rule], e)
				}
				all = append(all, want...)
				sizes[len(want)]++
			}
			if l, err := Pre(p, e); !same(l, plainMinimal(all)) || err != api.OK {
				t.Fatalf("%v, error %d, not %v: %+v %v", l, err, plainMinimal(all), p, e)
			}
		}
	}
	for count := range 4 {
		if sizes[count] < 100 {
			t.Error(sizes)
		}
	}
}

// P5.6: also with many processes, each element leads into the upward closure, and none below it does.
func TestPreMinimal(t *testing.T) {
	x := newSource(9)
	for range 1000 {
		p := x.family(t, 5, false)
		e := x.element(p, 9)
		rule := x.IntN(len(p.Rules))
		l, err := PreRule(p, rule, e)
		if err != api.OK {
			continue
		}
		leads := func(y api.Element) bool {
			return slices.ContainsFunc(plainPostRule(p, rule, y), func(z api.Element) bool { return plainLeq(e, z) })
		}
		for _, y := range l {
			if !leads(y) {
				t.Fatalf("%v does not lead to %v: %+v", y, e, p.Rules[rule])
			}
			for state, count := range y.Counts {
				if count == 0 {
					continue
				}
				less := cloned(y)
				less.Counts[state]--
				if leads(less) {
					t.Fatalf("%v leads to %v: %+v", less, e, p.Rules[rule])
				}
			}
		}
	}
}
