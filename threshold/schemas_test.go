package threshold

import (
	"slices"
	"testing"

	"familycheck/api"
)

// P4.2: example 1 of the chapter, and no thresholds up to MaxThresholds.
func TestSchemas(t *testing.T) {
	goal := "property q eventually goal "
	three := [][]int{nil, {0}, {0, 1}, {0, 1, 2}, {0, 2}, {0, 2, 1}, {1}, {1, 0}, {1, 0, 2}, {1, 2}, {1, 2, 0}, {2}, {2, 0}, {2, 0, 1}, {2, 1}, {2, 1, 0}}
	st, d := family(t, stText), duo(t, api.Crash)
	for i, x := range []struct {
		p    api.Protocol
		q    string
		want [][]int
	}{
		{st, "property q never start v0 count 1 ac", [][]int{nil, {0}, {0, 1}, {1}, {1, 0}}},
		{st, goal + "ac", [][]int{nil, {0}, {0, 1}, {1}, {1, 0}}},
		{d, "property q never count 1 d", three},
		{d, goal + "d", three},
		{guarded(), "property q never count 1 a", [][]int{nil}},
		{guarded(0, 0), goal + "b", [][]int{nil}},
		{guarded(0, 1, 1), goal + "b", [][]int{nil, {0}}}, // the same guard twice
		{guarded(2, 0, 1), goal + "b", [][]int{nil, {0}, {0, 1}, {1}, {1, 0}}},
	} {
		if list, e := Schemas(x.p, property(t, x.p, x.q)); e != api.OK || !same(list, x.want) {
			t.Errorf("%d: %v, error %d", i, list, e)
		}
	}
}

// P4.3: example 3 of the chapter.
func TestChoices(t *testing.T) {
	st, d := family(t, stText), duo(t, api.Crash)
	for i, x := range []struct {
		p    api.Protocol
		q    string
		want [][]int
	}{
		{st, "property q eventually start v1 goal ac", [][]int{{0, 0, 0}, {0, 0, 1}, {0, 1, 0}, {0, 1, 1}}},
		{st, "property q never count 1 ac", [][]int{nil}},
		{d, "property q eventually goal d", [][]int{{0, 0, 0, 0}, {0, 0, 1, 0}, {1, 0, 0, 0}, {1, 0, 1, 0}, {2, 0, 0, 0}, {2, 0, 1, 0}}},
		{guarded(), "property q eventually goal b", [][]int{nil}},
		{guarded(0), "property q eventually goal b", [][]int{{0}}},
		{guarded(1, 2), "property q eventually goal b", [][]int{{0, 0}, {0, 1}, {0, 2}, {1, 0}, {1, 1}, {1, 2}}},
	} {
		q := property(t, x.p, x.q)
		if n, e := Cases(x.p, q); n != len(x.want) || e != api.OK {
			t.Errorf("%d: %d cases, error %d", i, n, e)
		}
		for number, want := range x.want {
			if choice, e := Choice(x.p, q, number); e != api.OK || !same(choice, want) {
				t.Errorf("%d: choice %d: %v, error %d", i, number, choice, e)
			}
		}
		for _, number := range []int{-1, len(x.want), len(x.want) + 1, minInt, maxInt} {
			if choice, e := Choice(x.p, q, number); e != api.ErrArg || len(choice) > 0 {
				t.Errorf("%d: choice %d: %v, error %d", i, number, choice, e)
			}
		}
	}
}

// P4.2, P4.3: any families, against plain lists.
func TestSchemasAny(t *testing.T) {
	x := newSource(2)
	for range 3000 {
		p := x.family(t)
		q := x.property(t, p, x.between(api.Never, api.Eventually))
		if Check(p, q) != api.OK {
			continue
		}
		if list, e := Schemas(p, q); e != api.OK || !same(list, plainSchemas(p)) {
			t.Fatalf("%v, error %d: %+v", list, e, p)
		}
		choices := plainChoices(p, q)
		if n, e := Cases(p, q); n != len(choices) || e != api.OK {
			t.Fatalf("%d cases, error %d: %+v", n, e, p)
		}
		for number, want := range choices {
			if choice, e := Choice(p, q, number); e != api.OK || !slices.Equal(choice, want) {
				t.Fatalf("choice %d: %v, error %d: %+v", number, choice, e, p)
			}
		}
	}
}
