package fair

import (
	"testing"

	"familycheck/api"
)

// P9.2: the abstract states of configurations.
func TestAbstract(t *testing.T) {
	kinds, cast := family(t, kindsText), family(t, castText)
	for i, x := range []struct {
		p       api.Protocol
		e, want api.Element
	}{
		{cast, element(0, 0, 1), element(0, 0, 1)},
		{cast, element(0, 2, 1), element(0, 2, 1)},
		{cast, element(0, 3, 0), element(0, 2, 0)},
		{cast, element(0, 8, 9), element(0, 2, 2)},
		{kinds, element(1, 1, 2, 3), element(1, 1, 2, 2)},
		{kinds, element(0, api.MaxParameter, 0, 1), element(0, 2, 0, 1)},
		{kinds, element(1, 0, 0, 4), element(1, 0, 0, 2)},
	} {
		if a, e := Abstract(x.p, x.e); !same(a, x.want) || e != api.OK {
			t.Errorf("%d: %v, error %d", i, a, e)
		}
	}
}

// P9.2: which abstract states represent which configurations.
func TestRepresents(t *testing.T) {
	p := family(t, kindsText)
	for i, x := range []struct {
		a, e api.Element
		want bool
	}{
		{element(0, 1, 0, 2), element(0, 1, 0, 2), true},
		{element(0, 1, 0, 2), element(0, 1, 0, 3), true},
		{element(0, 1, 0, 2), element(0, 1, 0, api.MaxParameter), true},
		{element(0, 1, 0, 2), element(0, 1, 0, 1), false},
		{element(0, 1, 0, 2), element(0, 2, 0, 2), false},
		{element(0, 1, 0, 2), element(0, 0, 0, 2), false},
		{element(0, 1, 0, 2), element(0, 1, 1, 2), false},
		{element(0, 1, 0, 2), element(1, 1, 0, 2), false},
		{element(1, 2, 2, 2), element(1, 2, 5, 9), true},
		{element(1, 2, 2, 2), element(1, 2, 1, 9), false},
	} {
		if ok, e := Represents(p, x.a, x.e); ok != x.want || e != api.OK {
			t.Errorf("%d: %v, error %d", i, ok, e)
		}
	}
}

// P9.2: every configuration is represented by its abstract state, and by no other.
func TestRepresentsPlain(t *testing.T) {
	for _, p := range []api.Protocol{family(t, abText), family(t, mxText)} {
		for _, e := range plainElements(p, 4) {
			found := 0
			for _, a := range plainElements(p, 2) {
				ok, errno := Represents(p, a, e)
				if ok != plainSame(a, plainAbstract(e)) || errno != api.OK {
					t.Fatalf("%v for %v: %v, error %d", a, e, ok, errno)
				}
				if ok {
					found++
				}
			}
			if a, _ := Abstract(p, e); found != 1 || !same(a, plainAbstract(e)) {
				t.Fatalf("%v: %v, %d", e, a, found)
			}
		}
	}
}

// P9.3: the initial abstract states, for both kinds of properties.
func TestInitial(t *testing.T) {
	ab, kinds, four := family(t, abText), family(t, kindsText), family(t, fourText)
	for i, x := range []struct {
		p        api.Protocol
		property string
		want     []api.Element
	}{
		{ab, "property q eventually goal b", elements(element(0, 1, 0), element(0, 2, 0))},
		{ab, "property q eventually goal a", elements(element(0, 1, 0), element(0, 2, 0))},
		{ab, "property q never count 1 a", elements(element(0, 1, 0), element(0, 2, 0))},
		{kinds, "property q never start a count 1 a", elements(element(0, 1, 0, 0), element(0, 2, 0, 0))},
		{kinds, "property q eventually start b goal b", elements(element(0, 0, 1, 0), element(0, 0, 2, 0))},
		{kinds, "property q eventually start a b goal b", elements(element(0, 0, 1, 0), element(0, 0, 2, 0), element(0, 1, 0, 0), element(0, 1, 1, 0), element(0, 1, 2, 0), element(0, 2, 0, 0), element(0, 2, 1, 0), element(0, 2, 2, 0))},
		{four, "property q eventually start b d goal a", elements(element(0, 0, 0, 0, 1), element(0, 0, 0, 0, 2), element(0, 0, 1, 0, 0), element(0, 0, 1, 0, 1), element(0, 0, 1, 0, 2), element(0, 0, 2, 0, 0), element(0, 0, 2, 0, 1), element(0, 0, 2, 0, 2))},
	} {
		if l, e := Initial(x.p, property(t, x.p, x.property)); !same(l, x.want) || e != api.OK {
			t.Errorf("%d: %v, error %d", i, l, e)
		}
	}
	if l, e := Initial(four, property(t, four, "property q eventually goal a")); len(l) != 80 || e != api.OK {
		t.Errorf("%d states, error %d", len(l), e)
	}
}

// P9.3: all initial configurations with up to three processes in a state.
func TestInitialPlain(t *testing.T) {
	x := newSource(2)
	for range 300 {
		p := x.family(t, 4, 0)
		q := x.property(t, p, x.between(api.Never, api.Eventually))
		if l, e := Initial(p, q); !same(l, plainInitial(p, q)) || e != api.OK {
			t.Fatalf("%v, error %d: %+v %+v", l, e, p, q)
		}
	}
}

// P9.4: an abstract state is reached if all its processes are in the goal.
func TestReached(t *testing.T) {
	p := family(t, kindsText)
	for i, x := range []struct {
		property string
		a        api.Element
		want     bool
	}{
		{"property q eventually goal c", element(0, 0, 0, 1), true},
		{"property q eventually goal c", element(1, 0, 0, 2), true},
		{"property q eventually goal c", element(0, 0, 1, 2), false},
		{"property q eventually goal c", element(0, 1, 0, 0), false},
		{"property q eventually goal a c", element(1, 2, 0, 2), true},
		{"property q eventually goal a c", element(1, 2, 0, 0), true},
		{"property q eventually goal a c", element(1, 2, 1, 2), false},
		{"property q eventually goal a b c", element(1, 2, 1, 2), true},
		{"property q eventually start b goal a", element(0, 1, 0, 0), true},
	} {
		if ok, e := Reached(p, property(t, p, x.property), x.a); ok != x.want || e != api.OK {
			t.Errorf("%d: %v, error %d", i, ok, e)
		}
	}
}
