package invariant

import (
	"testing"

	"familycheck/api"
	"familycheck/cover"
	"familycheck/unfold"
)

// P8.5: small lists, and the limits.
func TestElements(t *testing.T) {
	mx, cast, four := family(t, mxText), family(t, castText), family(t, fourText)
	for i, x := range []struct {
		p    api.Protocol
		most int
		want []api.Element
	}{
		{cast, 0, nil},
		{mx, 0, nil},
		{cast, 1, elements(element(0, 0, 1), element(0, 1, 0), element(0, 1, 1))},
		{cast, 2, elements(element(0, 0, 1), element(0, 0, 2), element(0, 1, 0), element(0, 1, 1), element(0, 1, 2), element(0, 2, 0), element(0, 2, 1), element(0, 2, 2))},
		{family(t, "protocol one\ntopology clique\nstates a\nvalues x y\ninitial a\n"), 3, elements(element(0, 1), element(0, 2), element(0, 3), element(1, 1), element(1, 2), element(1, 3))},
		{family(t, "protocol one\ntopology clique\nstates a\nvalues x\ninitial a\n"), 8, elements(element(0, 1), element(0, 2), element(0, 3), element(0, 4), element(0, 5), element(0, 6), element(0, 7), element(0, 8))},
	} {
		if l, e := Elements(x.p, x.most); !same(l, x.want) || e != api.OK {
			t.Errorf("%d: %v, error %d", i, l, e)
		}
	}
	for i, x := range []struct {
		p     api.Protocol
		most  int
		count int
		want  api.Errno
	}{
		{cast, 8, 80, api.OK},
		{cast, 9, 0, api.ErrArg},
		{cast, maxInt, 0, api.ErrArg},
		{cast, -1, 0, api.ErrArg},
		{cast, minInt, 0, api.ErrArg},
		{mx, 8, 1456, api.OK},
		{mx, 9, 0, api.ErrArg},
		{four, 5, 3885, api.OK},
		{four, 6, 0, api.ErrLarge},
		{four, 8, 0, api.ErrLarge},
		{four, 9, 0, api.ErrArg},
		{four, -1, 0, api.ErrArg},
		{family(t, replaced(t, fourText, "x y z", "x y")), 5, 2590, api.OK},
		{family(t, replaced(t, fourText, "x y z", "x y")), 6, 0, api.ErrLarge},
		{family(t, replaced(t, replaced(t, fourText, "values x y z\n", ""), " write y", "")), 6, 2400, api.OK},
		{family(t, replaced(t, replaced(t, fourText, "values x y z\n", ""), " write y", "")), 7, 0, api.ErrLarge},
	} {
		if l, e := Elements(x.p, x.most); len(l) != x.count || e != x.want {
			t.Errorf("%d: %d, error %d", i, len(l), e)
		}
	}
}

// P8.5: the elements follow the plain function, and are in ascending order.
func TestElementsPlain(t *testing.T) {
	x := newSource(4)
	for range 200 {
		p := x.family(t, 3, false)
		most := x.between(0, 4)
		l, e := Elements(p, most)
		if e != api.OK || !same(l, plainElements(p, most)) {
			t.Fatalf("%d: %v, error %d", most, l, e)
		}
		for i := range l {
			if i > 0 && cover.Compare(l[i-1], l[i]) >= 0 {
				t.Fatal(l[i-1], l[i])
			}
		}
	}
}

// P8.7: a step on numbers of processes is a step of the unfolded system, for every kind of rule and guard.
func TestStepUnfolded(t *testing.T) {
	x := newSource(5)
	steps, families := 0, []api.Protocol{family(t, mxText), family(t, kindsText), family(t, castText), family(t, fourText)}
	for i := range 1500 {
		p := x.family(t, 4, false)
		if i < len(families) {
			p = families[i]
		}
		e := x.element(p, 6)
		c, _ := cover.Configuration(p, e)
		size := api.Size{N: len(c.States)}
		for rule, r := range p.Rules {
			var want []api.Element
			list, err := unfold.Steps(p, size, c)
			if err != api.OK {
				t.Fatal(err)
			}
			for _, s := range list {
				if s.Rule == rule {
					next, _ := unfold.Apply(p, size, c, s)
					y, _ := cover.Abstract(p, next)
					want = append(want, y)
					steps++
				}
			}
			want = plainSorted(want)
			var got []api.Element
			if next, ok := step(r, e); ok {
				got = append(got, next)
			}
			if !same(got, want) || !same(plainPostRule(p, rule, e), want) {
				t.Fatalf("%v, not %v: %+v from %v", got, want, r, e)
			}
		}
	}
	if steps < 3000 {
		t.Error(steps)
	}
}

// P8.7, P8.8: all elements with counts up to the rank + 2, those with fewer processes first.
func TestExamples(t *testing.T) {
	for rank := range 4 {
		p := family(t, fourText)
		list := examples(p, rank)
		if len(list) != 3*(power(rank+3, 4)-1) {
			t.Error(rank, len(list))
		}
		for i, e := range list {
			if i == 0 {
				continue
			}
			before, total := cover.Total(list[i-1]), cover.Total(e)
			if before > total || before == total && cover.Compare(list[i-1], e) >= 0 {
				t.Fatal(list[i-1], e)
			}
		}
	}
}

func power(base, exponent int) int {
	result := 1
	for range exponent {
		result *= base
	}
	return result
}
