package fair

import (
	"testing"

	"familycheck/api"
	"familycheck/cover"
	"familycheck/unfold"
)

// A family in which at most one process is in x, and at most one in y.
const onesText = "protocol ones\ntopology clique\nstates i x y\nvalues none one two\ninitial i\nrule r1 local i x read none write one\nrule r2 local i y read one write two\n"

// P9.4: the reachable abstract states, without those that are reached.
func TestReach(t *testing.T) {
	ab, cast, mx, ones := family(t, abText), family(t, castText), family(t, mxText), family(t, onesText)
	for i, x := range []struct {
		p        api.Protocol
		property string
		want     []api.Element
	}{
		{ab, "property q eventually goal b", elements(element(0, 1, 0), element(0, 1, 1), element(0, 1, 2), element(0, 2, 0), element(0, 2, 1), element(0, 2, 2))},
		{ab, "property q never count 1 b", elements(element(0, 0, 1), element(0, 0, 2), element(0, 1, 0), element(0, 1, 1), element(0, 1, 2), element(0, 2, 0), element(0, 2, 1), element(0, 2, 2))},
		{ab, "property q eventually goal a", nil},
		{ab, "property q eventually goal a b", nil},
		{cast, "property q eventually goal i", elements(element(0, 1, 0), element(0, 2, 0))},
		{cast, "property q eventually goal s", nil},
		{cast, "property q never count 1 i", elements(element(0, 0, 1), element(0, 0, 2), element(0, 1, 0), element(0, 2, 0), element(0, 2, 1), element(0, 2, 2))},
		// What can be met only after the goal is not in it.
		{mx, "property q eventually goal i w", nil},
		{mx, "property q eventually goal w", elements(element(0, 1, 0, 0), element(0, 1, 1, 0), element(0, 1, 2, 0), element(0, 2, 0, 0), element(0, 2, 1, 0), element(0, 2, 2, 0),
			element(1, 0, 1, 1), element(1, 0, 2, 1), element(1, 1, 0, 1), element(1, 1, 1, 1), element(1, 1, 2, 1), element(1, 2, 0, 1), element(1, 2, 1, 1), element(1, 2, 2, 1))},
		{ones, "property q eventually goal x", elements(element(0, 1, 0, 0), element(0, 2, 0, 0), element(1, 1, 1, 0), element(1, 2, 1, 0), element(2, 0, 1, 1), element(2, 1, 1, 1), element(2, 2, 1, 1))},
	} {
		if l := newPlainWorld(x.p, 4).reach(property(t, x.p, x.property)); !same(l, x.want) {
			t.Errorf("%d: plain %v", i, l)
		}
		if l, e := Reach(x.p, property(t, x.p, x.property)); !same(l, x.want) || e != api.OK {
			t.Errorf("%d: %v, error %d", i, l, e)
		}
	}
}

// P9.4: the closure of the initial abstract states, for both kinds of properties.
func TestReachPlain(t *testing.T) {
	x := newSource(7)
	states := 0
	for range 200 {
		p := x.family(t, 3, 4)
		w := newPlainWorld(p, 4)
		for kind := api.Never; kind <= api.Eventually; kind++ {
			q := x.property(t, p, kind)
			l, e := Reach(p, q)
			if !same(l, w.reach(q)) || e != api.OK {
				t.Fatalf("%v, error %d, not %v: %+v %+v", l, e, w.reach(q), p, q)
			}
			states += len(l)
		}
	}
	if states < 1000 {
		t.Error(states)
	}
}

// P9.4, (Consequence.): Reach has the abstract states of what the unfolded systems reach.
func TestReachUnfolded(t *testing.T) {
	x := newSource(8)
	for range 1000 {
		p := x.family(t, 4, 5)
		q := x.property(t, p, api.Never)
		l, _ := Reach(p, q)
		for n := range 4 {
			configs, errno := unfold.Reach(p, q, api.Size{N: n + 1})
			if errno != api.OK {
				t.Fatal(errno)
			}
			for _, c := range configs {
				e, _ := cover.Abstract(p, c)
				if a, errno := Abstract(p, e); !plainHas(l, a) || errno != api.OK {
					t.Fatalf("%v is not in %v: %+v", e, l, p)
				}
			}
		}
	}
}

// P9.5: no state of Reach represents a bad configuration.
func TestSafe(t *testing.T) {
	ab, cast, mx, ones := family(t, abText), family(t, castText), family(t, mxText), family(t, onesText)
	infect := family(t, replaced(t, castText, "rule p pair i s i s\n", ""))
	open := family(t, replaced(t, mxText, "read free ", ""))
	for i, x := range []struct {
		p        api.Protocol
		property string
		want     bool
	}{
		{mx, "property q never count 2 c", true},
		{mx, "property q never count 3 c", true},
		{mx, "property q never count 1 c", false},
		{mx, "property q never count 2 c count 1 i", true},
		{mx, "property q never count 1 i count 2 c", true},
		{mx, "property q never count 1 c count 3 i", false},
		{mx, "property q never count 2 w c", false},
		{open, "property q never count 2 c", false},
		{open, "property q never count 3 c", false},
		// One in each of two states are two, but not three.
		{ones, "property q never count 1 x count 1 y", false},
		{ones, "property q never count 2 x y", false},
		{ones, "property q never count 3 x y", true},
		{ones, "property q never count 2 x", true},
		{ones, "property q never count 2 x count 2 i", true},
		{ones, "property q never count 2 i x", false},
		// Two or more may be three.
		{ab, "property q never count 3 a", false},
		{ab, "property q never count 3 b count 3 a", false},
		{infect, "property q never count 1 i count 1 s", true},
		{infect, "property q never count 3 i", false},
		{cast, "property q never count 1 s count 1 i", false},
		// What comes after the start.
		{cast, "property q never count 1 i", false},
		{family(t, replaced(t, abText, "initial a", "initial a b")), "property q never start b count 1 a", true},
		{family(t, replaced(t, abText, "initial a", "initial a b")), "property q never count 1 a", false},
	} {
		if ok, e := Safe(x.p, property(t, x.p, x.property)); ok != x.want || e != api.OK {
			t.Errorf("%d: %v, error %d", i, ok, e)
		}
	}
}

// P9.5: the configurations with up to four processes in a state.
func TestSafePlain(t *testing.T) {
	x := newSource(9)
	safe, unsafe := 0, 0
	for range 300 {
		p := x.family(t, 3, 4)
		q := x.property(t, p, api.Never)
		ok, e := Safe(p, q)
		if ok != newPlainWorld(p, 4).safe(q) || e != api.OK {
			t.Fatalf("%v, error %d: %+v %+v", ok, e, p, q)
		}
		if ok {
			safe++
		} else {
			unsafe++
		}
	}
	if safe < 30 || unsafe < 30 {
		t.Error(safe, unsafe)
	}
}

// P9.5 (Consequence.), S4: the other methods find no violation of what is safe.
func TestSafeHolds(t *testing.T) {
	x := newSource(10)
	safe, solved := 0, 0
	for range 400 {
		p := x.family(t, 4, 5)
		q := x.property(t, p, api.Never)
		if ok, _ := Safe(p, q); !ok {
			continue
		}
		safe++
		if s, _, found, errno := unfold.Smallest(p, q, 4); found || errno != api.OK {
			t.Fatalf("violated at %v, error %d: %+v %+v", s, errno, p, q)
		}
		if cover.Check(p, q) != api.OK {
			continue
		}
		result, errno := cover.Solve(p, q, 50)
		if result.Verdict == api.Violated {
			t.Fatalf("%v: %+v %+v", result, p, q)
		}
		if errno == api.OK && result.Verdict == api.Holds {
			solved++
		}
	}
	if safe < 60 || solved < 20 {
		t.Error(safe, solved)
	}
}
