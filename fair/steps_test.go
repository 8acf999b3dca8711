package fair

import (
	"testing"

	"familycheck/api"
	"familycheck/cover"
)

// P9.3: what each kind of rule leads to. A rule is enabled if it leads anywhere.
func TestPost(t *testing.T) {
	ab, kinds, cast := family(t, abText), family(t, kindsText), family(t, castText)
	for i, x := range []struct {
		p    api.Protocol
		rule int
		a    api.Element
		want []api.Element
	}{
		{ab, 0, element(0, 2, 0), elements(element(0, 1, 1), element(0, 2, 1))},
		{ab, 0, element(0, 1, 0), elements(element(0, 0, 1))},
		{ab, 0, element(0, 0, 2), nil},

		{kinds, 0, element(0, 1, 0, 0), elements(element(0, 0, 1, 0))},
		{kinds, 0, element(1, 1, 1, 0), elements(element(1, 0, 2, 0))},
		{kinds, 0, element(1, 2, 2, 2), elements(element(1, 1, 2, 2), element(1, 2, 2, 2))},
		{kinds, 0, element(0, 0, 2, 1), nil},

		// Another process must be in a or b, and the value lo.
		{kinds, 1, element(0, 0, 1, 0), nil},
		{kinds, 1, element(0, 0, 1, 2), nil},
		{kinds, 1, element(0, 1, 1, 0), elements(element(1, 1, 0, 1))},
		{kinds, 1, element(0, 0, 2, 0), elements(element(1, 0, 1, 1), element(1, 0, 2, 1))},
		{kinds, 1, element(0, 0, 2, 1), elements(element(1, 0, 1, 2), element(1, 0, 2, 2))},
		{kinds, 1, element(1, 1, 1, 0), nil},

		// All other processes must be in a or b, and the value hi.
		{kinds, 2, element(1, 0, 0, 1), elements(element(1, 1, 0, 0))},
		{kinds, 2, element(1, 0, 0, 2), nil},
		{kinds, 2, element(1, 1, 2, 1), elements(element(1, 2, 2, 0))},
		{kinds, 2, element(1, 2, 2, 0), nil},
		{kinds, 2, element(0, 1, 0, 1), nil},

		// Another process must be in a, and all in a or c.
		{kinds, 3, element(1, 1, 1, 0), elements(element(0, 1, 0, 1))},
		{kinds, 3, element(0, 2, 1, 2), elements(element(0, 2, 0, 2))},
		{kinds, 3, element(1, 1, 2, 0), nil},
		{kinds, 3, element(1, 0, 1, 2), nil},
		{kinds, 3, element(1, 0, 1, 0), nil},

		{kinds, 4, element(1, 1, 0, 1), elements(element(0, 1, 1, 0))},
		{kinds, 4, element(0, 2, 0, 2), elements(element(0, 2, 1, 1), element(0, 2, 1, 2))},
		{kinds, 4, element(0, 2, 1, 1), elements(element(0, 2, 2, 0))},
		{kinds, 4, element(0, 1, 2, 0), nil},
		{kinds, 4, element(1, 0, 2, 2), nil},

		// Both processes are in a: of many there may be none, one or many others.
		{kinds, 5, element(1, 1, 0, 0), nil},
		{kinds, 5, element(1, 2, 0, 0), elements(element(1, 0, 2, 0), element(1, 1, 2, 0), element(1, 2, 2, 0))},
		{kinds, 5, element(0, 2, 0, 0), nil},

		// Those in a go to b, and those in b to c.
		{kinds, 6, element(0, 0, 0, 1), elements(element(1, 1, 0, 0))},
		{kinds, 6, element(0, 0, 0, 2), elements(element(1, 1, 0, 1), element(1, 1, 0, 2))},
		{kinds, 6, element(0, 1, 1, 1), elements(element(1, 1, 1, 1))},
		{kinds, 6, element(1, 2, 1, 2), elements(element(1, 1, 2, 2))},
		{kinds, 6, element(0, 0, 1, 2), elements(element(1, 1, 0, 2))},
		{kinds, 6, element(0, 1, 0, 2), elements(element(1, 1, 1, 1), element(1, 1, 1, 2))},
		{kinds, 6, element(1, 2, 2, 0), nil},

		{cast, 0, element(0, 2, 1), elements(element(0, 0, 2))},
		{cast, 0, element(0, 1, 0), elements(element(0, 0, 1))},
		{cast, 0, element(0, 2, 0), elements(element(0, 0, 2))},
		{cast, 1, element(0, 1, 1), nil},
		{cast, 1, element(0, 1, 2), elements(element(0, 2, 0), element(0, 2, 1), element(0, 2, 2))},
	} {
		l, e := Post(x.p, x.rule, x.a)
		if !same(l, x.want) || e != api.OK {
			t.Errorf("%d: %v, error %d", i, l, e)
		}
		if ok, e := Enabled(x.p, x.rule, x.a); ok != (len(x.want) > 0) || e != api.OK {
			t.Errorf("%d: enabled %v, error %d", i, ok, e)
		}
	}
}

// P9.3: the steps from all configurations with up to six processes in a state.
func TestPostPlain(t *testing.T) {
	x := newSource(3)
	enabled, several := 0, 0
	for range 120 {
		p := x.family(t, 3, 4)
		w := newPlainWorld(p, 6)
		for rule := range p.Rules {
			for _, a := range w.states {
				want := w.after(rule, a)
				l, e := Post(p, rule, a)
				ok, e2 := Enabled(p, rule, a)
				if !same(l, want) || ok != (len(want) > 0) || e != api.OK || e2 != api.OK {
					t.Fatalf("rule %d from %v: %v, %v, errors %d, %d, not %v: %+v", rule, a, l, ok, e, e2, want, p)
				}
				enabled += min(len(l), 1)
				several += min(len(l)/2, 1)
			}
		}
	}
	if enabled < 2000 || several < 500 {
		t.Error(enabled, several)
	}
}

// P9.3: families with as many states as there may be.
func TestPostFourStates(t *testing.T) {
	x := newSource(4)
	for range 12 {
		p := x.family(t, 4, 4)
		w := newPlainWorld(p, 4)
		for rule := range p.Rules {
			for _, a := range w.states {
				if l, e := Post(p, rule, a); !same(l, w.after(rule, a)) || e != api.OK {
					t.Fatalf("rule %d from %v: %v, error %d: %+v", rule, a, l, e, p)
				}
			}
		}
	}
}

// P9.3: a rule is enabled in all configurations that an abstract state represents, or in none.
func TestEnabledInAll(t *testing.T) {
	x := newSource(5)
	for range 60 {
		p := x.family(t, 3, 4)
		for rule := range p.Rules {
			for _, a := range plainElements(p, 2) {
				want, errno := Enabled(p, rule, a)
				for _, e := range plainRepresented(a, 4) {
					if (len(plainPostRule(p, rule, e)) > 0) != want || errno != api.OK {
						t.Fatalf("rule %d in %v, %v, error %d: %+v", rule, e, want, errno, p)
					}
				}
			}
		}
	}
}

// P9.3: the abstract states of what package cover says of one configuration.
func TestPostContainsCover(t *testing.T) {
	x := newSource(6)
	for range 300 {
		p := x.family(t, 4, 4)
		e := x.element(p, 9)
		next, errno := cover.Post(p, e)
		if errno != api.OK {
			t.Fatal(errno)
		}
		var list []api.Element
		for rule := range p.Rules {
			l, _ := Post(p, rule, plainAbstract(e))
			list = append(list, l...)
		}
		for _, after := range next {
			if !plainHas(list, plainAbstract(after)) {
				t.Fatalf("%v after %v is not in %v: %+v", after, e, list, p)
			}
		}
	}
}
