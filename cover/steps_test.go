package cover

import (
	"testing"

	"familycheck/api"
	"familycheck/unfold"
)

// P5.5: each kind of rule.
func TestPost(t *testing.T) {
	kinds, infect, forall := family(t, kindsText), family(t, infectText), family(t, forallText)
	const most = api.MaxParameter
	for i, x := range []struct {
		p    api.Protocol
		e    api.Element
		want []api.Element
	}{
		{kinds, element(0, 0, 0, 0), nil},
		{kinds, element(1, 0, 0, 0), nil},
		{kinds, element(0, 1, 0, 0), elements(element(0, 0, 1, 0))},                                           // move
		{kinds, element(0, 0, 1, 0), nil},                                                                     // any needs another process
		{kinds, element(0, 0, 2, 0), elements(element(1, 0, 1, 1))},                                           // any
		{kinds, element(1, 0, 2, 0), nil},                                                                     // any reads lo
		{kinds, element(0, 0, 1, 1), elements(element(1, 1, 0, 1))},                                           // cast
		{kinds, element(1, 0, 1, 1), elements(element(1, 1, 0, 1))},                                           // cast
		{kinds, element(0, 1, 0, 1), elements(element(0, 0, 1, 1), element(0, 1, 1, 0), element(1, 1, 1, 0))}, // move, two and cast
		{kinds, element(1, 1, 0, 1), elements(element(0, 1, 1, 0), element(1, 0, 1, 1), element(1, 1, 1, 0))}, // two, move and cast
		{kinds, element(0, 2, 0, 0), elements(element(0, 1, 1, 0))},                                           // move; same reads hi
		{kinds, element(1, 2, 0, 0), elements(element(1, 0, 2, 0), element(1, 1, 1, 0))},                      // same and move
		{kinds, element(1, 1, 0, 0), elements(element(1, 0, 1, 0))},                                           // same needs two
		{kinds, element(0, 0, 0, 3), elements(element(1, 1, 0, 2))},                                           // cast
		{kinds, element(1, 3, 4, 2), elements(element(0, 3, 5, 1), element(1, 1, 3, 5), element(1, 1, 6, 2), element(1, 2, 5, 2))},
		{infect, element(0, most, most), elements(element(0, 0, 2*most))},
		{infect, element(0, 0, most), nil},
		{infect, element(0, 1, most), elements(element(0, 0, most+1))},
		{infect, element(0, 1, 0), elements(element(0, 0, 1))},
		{forall, element(0, 1, 0, 0, 0), elements(element(0, 0, 1, 0, 0))}, // each, alone
		{forall, element(0, 2, 3, 0, 0), elements(element(0, 1, 3, 0, 1), element(0, 1, 4, 0, 0))},
		{forall, element(1, 2, 3, 0, 0), elements(element(1, 1, 3, 0, 1))}, // each reads lo
		{forall, element(0, 2, 0, 0, 1), nil},
		{forall, element(0, 0, 1, 0, 0), nil}, // both needs another in a
		{forall, element(0, 1, 1, 2, 0), elements(element(0, 0, 1, 2, 1), element(1, 1, 0, 3, 0))},
		{forall, element(0, 0, 1, 2, 0), nil},
		{forall, element(1, 0, 0, 1, 0), elements(element(1, 0, 0, 1, 0))}, // back, to the same state
		{forall, element(1, 0, 0, 2, 0), nil},
		{forall, element(0, 1, most, 0, 0), elements(element(0, 0, most, 0, 1), element(0, 0, most+1, 0, 0))},
	} {
		if l, e := Post(x.p, x.e); !same(l, x.want) || e != api.OK {
			t.Errorf("%d: %v, error %d", i, l, e)
		}
	}
}

// P5.5: steps as plain processes take them, for more processes than a system has.
func TestPostPlain(t *testing.T) {
	x := newSource(6)
	steps := 0
	for range 3000 {
		p := x.family(t, 4, true)
		e := x.element(p, 12)
		l, err := Post(p, e)
		if err != api.OK || !same(l, plainPost(p, e)) {
			t.Fatalf("%v, error %d, not %v: %+v %v", l, err, plainPost(p, e), p, e)
		}
		steps += len(l)
	}
	if steps < 2000 {
		t.Error(steps)
	}
}

// P5.5: the steps are those of unfold.
func TestPostUnfolded(t *testing.T) {
	x := newSource(7)
	for range 1500 {
		p := x.family(t, 4, true)
		c := config(x.IntN(plainValues(p)))
		for range x.between(1, api.MaxProcesses) {
			c.States = append(c.States, x.IntN(len(p.States)))
		}
		c.Correct = len(c.States)
		s := api.Size{N: len(c.States)}
		steps, err := unfold.Steps(p, s, c)
		if err != api.OK {
			t.Fatal(err)
		}
		var want []api.Element
		for _, step := range steps {
			next, _ := unfold.Apply(p, s, c, step)
			want = append(want, plainElement(p, next.Value, next.States))
		}
		l, err := Post(p, plainElement(p, c.Value, c.States))
		if want = plainSorted(want); err != api.OK || !same(l, want) {
			t.Fatalf("%v, error %d, not %v: %+v %v", l, err, want, p, c)
		}
	}
}
