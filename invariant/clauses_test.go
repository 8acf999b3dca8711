package invariant

import (
	"slices"
	"testing"

	"familycheck/api"
)

func clauseOf(values, some []int, each ...[]int) api.Clause {
	return api.Clause{Each: each, Values: values, Some: some}
}

// P8.2: the errors of a clause in their order.
func TestValidClause(t *testing.T) {
	mx, cast, four := family(t, mxText), family(t, castText), family(t, fourText)
	for i, x := range []struct {
		p    api.Protocol
		c    api.Clause
		want api.Errno
	}{
		{mx, clauseOf(nil, nil), api.OK},
		{mx, clauseOf(nil, nil, ints(0)), api.OK},
		{mx, clauseOf(nil, nil, ints(2), ints(0)), api.OK},
		{mx, clauseOf(nil, nil, ints(2), ints(2)), api.OK},
		{mx, clauseOf(ints(0, 1), ints(0, 1, 2), ints(0, 1, 2), ints(0, 2)), api.OK},
		{cast, clauseOf(nil, ints(0, 1), ints(0, 1)), api.OK},
		{four, clauseOf(ints(0, 1, 2), ints(0, 1, 2, 3), ints(0, 1, 2, 3), ints(3)), api.OK},

		{mx, clauseOf(nil, nil, ints(0), ints(0), ints(0)), api.ErrArg},
		{mx, clauseOf(ints(9), ints(9), ints(9), nil, ints(9)), api.ErrArg},
		{mx, clauseOf(nil, nil, ints(0), ints(0), ints(0), ints(0)), api.ErrArg},

		{mx, clauseOf(nil, nil, ints(3)), api.ErrState},
		{mx, clauseOf(nil, nil, ints(-1)), api.ErrState},
		{mx, clauseOf(nil, nil, ints(1, 0, minInt)), api.ErrState},
		{mx, clauseOf(nil, nil, ints(maxInt, 0)), api.ErrState},
		{mx, clauseOf(nil, nil, ints(0, 0)), api.ErrArg},
		{mx, clauseOf(nil, nil, ints(1, 0)), api.ErrArg},
		{mx, clauseOf(nil, nil, nil), api.ErrArg},
		{mx, clauseOf(nil, nil, ints(0), nil), api.ErrArg},
		{mx, clauseOf(nil, nil, ints(), ints(3)), api.ErrArg},
		{mx, clauseOf(nil, nil, ints(1, 0), ints(3)), api.ErrArg},
		{mx, clauseOf(nil, nil, ints(3), ints(1, 0)), api.ErrState},
		{mx, clauseOf(nil, nil, ints(0, 1), ints(2, 3)), api.ErrState},
		{mx, clauseOf(ints(2), nil, nil), api.ErrArg},

		{mx, clauseOf(ints(2), nil), api.ErrState},
		{mx, clauseOf(ints(-1), nil), api.ErrState},
		{mx, clauseOf(ints(0, 0), nil), api.ErrArg},
		{mx, clauseOf(ints(1, 0), nil), api.ErrArg},
		{mx, clauseOf(ints(1, 0, 2), nil), api.ErrState},
		{mx, clauseOf(ints(1, 0), ints(3)), api.ErrArg},
		{mx, clauseOf(ints(2), ints(1, 0)), api.ErrState},
		{cast, clauseOf(ints(0), nil), api.ErrState},

		{mx, clauseOf(nil, ints(3)), api.ErrState},
		{mx, clauseOf(nil, ints(-1)), api.ErrState},
		{mx, clauseOf(nil, ints(2, 1)), api.ErrArg},
		{mx, clauseOf(nil, ints(2, 2)), api.ErrArg},
		{mx, clauseOf(nil, ints(2, 1, 3)), api.ErrState},
		{cast, clauseOf(nil, ints(2)), api.ErrState},
	} {
		if e := ValidClause(x.p, x.c); e != x.want || e != plainClauseError(x.p, x.c) {
			t.Errorf("%d: error %d, not %d", i, e, x.want)
		}
	}
}

// P8.2: all clauses of a source, most of them not valid.
func TestValidClausePlain(t *testing.T) {
	x := newSource(2)
	found := map[api.Errno]int{}
	for range 6000 {
		p := x.family(t, 4, false)
		c := x.clause(p, 2)
		for range x.IntN(3) {
			x.disturb(&c)
		}
		e := ValidClause(p, c)
		found[e]++
		if e != plainClauseError(p, c) {
			t.Fatalf("error %d: %v", e, c)
		}
	}
	if found[api.OK] < 1000 || found[api.ErrArg] < 500 || found[api.ErrState] < 500 {
		t.Error(found)
	}
}

// P8.3: clauses with and without each of their parts.
func TestHoldsIn(t *testing.T) {
	mx, cast := family(t, mxText), family(t, castText)
	const most = api.MaxParameter
	for i, x := range []struct {
		p    api.Protocol
		text string
		e    api.Element
		want bool
	}{
		// Without Each there is one situation.
		{mx, "all", element(0, 1, 0, 0), false},
		{mx, "all", element(1, 5, 5, 5), false},
		{mx, "all value=held", element(0, 1, 0, 0), true},
		{mx, "all value=held", element(1, 1, 0, 0), false},
		{mx, "all value=free|held", element(1, 1, 0, 0), false},
		{mx, "all some=i", element(0, 1, 0, 0), true},
		{mx, "all some=i", element(0, 0, 1, 1), false},
		{mx, "all some=i|c", element(0, 0, 1, 1), true},
		{mx, "all value=held some=i", element(0, 0, 1, 1), true},
		{mx, "all value=held some=i", element(1, 0, 1, 1), false},
		{cast, "all", element(0, 1, 0), false},
		{cast, "all some=s", element(0, 0, 1), false},
		{cast, "all some=s", element(0, 1, 0), true},

		// One process.
		{mx, "all c", element(0, 7, 7, 0), true},
		{mx, "all c", element(0, 7, 7, 1), false},
		{mx, "all i|c", element(0, 0, 7, 0), true},
		{mx, "all i|c", element(0, 1, 7, 0), false},
		{mx, "all c value=free", element(0, 0, 0, 1), false},
		{mx, "all c value=free", element(1, 0, 0, 1), true},
		{mx, "all c value=free|held", element(1, 0, 0, 1), false},
		{mx, "all c some=i|w", element(0, 0, 0, 1), false},
		{mx, "all c some=i|w", element(0, 0, 0, 9), false},
		{mx, "all c some=i|w", element(0, 0, 1, 9), true},
		{mx, "all c some=i|w", element(0, 2, 0, 0), true},
		{mx, "all c some=c", element(0, 1, 1, 1), false},
		{mx, "all c some=c", element(0, 0, 0, 2), true},
		{mx, "all w|c some=c", element(0, 1, 0, 1), false},
		{mx, "all w|c some=c", element(0, 1, 1, 1), false},
		{mx, "all w|c some=c", element(0, 1, 1, 2), true},
		{mx, "all w|c value=free some=c", element(1, 1, 1, 1), true},

		// Two different processes.
		{mx, "all c c", element(0, 9, 9, 0), true},
		{mx, "all c c", element(0, 9, 9, 1), true},
		{mx, "all c c", element(0, 9, 9, 2), false},
		{mx, "all w c", element(0, 9, 1, 0), true},
		{mx, "all w c", element(0, 9, 0, 9), true},
		{mx, "all w c", element(0, 0, 1, 1), false},
		{mx, "all c w", element(0, 0, 1, 1), false},
		{mx, "all w|c w|c", element(0, 9, 0, 1), true},
		{mx, "all w|c w|c", element(0, 0, 1, 1), false},
		{mx, "all w|c w|c", element(0, 0, 2, 0), false},
		{mx, "all w|c c", element(0, 0, 2, 0), true},
		{mx, "all c c value=held", element(0, 0, 0, 2), true},
		{mx, "all c c value=held", element(1, 0, 0, 2), false},
		{mx, "all c c some=c", element(0, 5, 5, 1), true},
		{mx, "all c c some=c", element(0, 5, 5, 2), false},
		{mx, "all c c some=c", element(0, 0, 0, 3), true},
		{mx, "all w c some=c", element(0, 0, 1, 1), false},
		{mx, "all w c some=c", element(0, 0, 1, 2), true},
		{mx, "all i|c c some=c", element(0, 1, 0, 1), false},
		{mx, "all i|c c some=c", element(0, 1, 0, 2), false},
		{mx, "all i|c c some=c", element(0, 1, 0, 3), true},
		{mx, "all i|w|c i|w|c some=i|w|c", element(0, 1, 0, 0), true},
		{mx, "all i|w|c i|w|c some=i|w|c", element(0, 1, 1, 0), false},
		{mx, "all i|w|c i|w|c some=i|w|c", element(0, 1, 1, 1), true},
		{mx, "all i|w|c i|w|c value=held some=i|w|c", element(1, 0, 2, 0), false},

		{mx, "all c c", element(0, 0, 0, most), false},
		{mx, "all c c some=c", element(0, most, most, most), true},
		{mx, "all c c some=i", element(1, 0, most, most), false},
	} {
		ok, e := HoldsIn(x.p, clause(t, x.p, x.text), x.e)
		if ok != x.want || e != api.OK {
			t.Errorf("%d: %v, error %d", i, ok, e)
		}
	}
}

// P8.3: elements that give no configuration.
func TestHoldsInError(t *testing.T) {
	mx, cast := family(t, mxText), family(t, castText)
	for i, x := range []struct {
		p    api.Protocol
		e    api.Element
		want api.Errno
	}{
		{mx, element(0, 0, 0, 1), api.OK},
		{mx, element(1, api.MaxParameter, api.MaxParameter, api.MaxParameter), api.OK},
		{cast, element(0, 1, 0), api.OK},
		{mx, element(0, 0, 0, 0), api.ErrArg},
		{mx, element(1, 0, 0, 0), api.ErrArg},
		{mx, element(0, 0, 0, api.MaxParameter+1), api.ErrArg},
		{mx, element(0, 1, 1, -1), api.ErrArg},
		{mx, element(0, 1, 1, minInt), api.ErrArg},
		{mx, element(0, maxInt, 1, 1), api.ErrArg},
		{mx, element(0, 1, 1), api.ErrArg},
		{mx, element(0, 1, 1, 1, 1), api.ErrArg},
		{mx, element(0), api.ErrArg},
		{mx, element(2, 1, 1, 1), api.ErrArg},
		{mx, element(-1, 1, 1, 1), api.ErrArg},
		{cast, element(1, 1, 0), api.ErrArg},
	} {
		c := clauseOf(nil, nil)
		if ok, e := HoldsIn(x.p, c, x.e); ok || e != x.want {
			t.Errorf("%d: %v, error %d", i, ok, e)
		}
		if l, e := Filter(x.p, []api.Clause{c}, elements(x.e)); len(l) != 0 || e != x.want {
			t.Errorf("%d: Filter: %v, error %d", i, l, e)
		}
	}
}

// P8.3: HoldsIn follows the plain function.
func TestHoldsInPlain(t *testing.T) {
	x := newSource(3)
	var found [2]int
	for range 20000 {
		p := x.family(t, 4, false)
		c, e := x.clause(p, 2), x.element(p, 7)
		ok, err := HoldsIn(p, c, e)
		if err != api.OK || ok != plainHolds(c, e) {
			t.Fatalf("%v, error %d: %v in %v", ok, err, c, e)
		}
		if ok {
			found[0]++
		} else {
			found[1]++
		}
	}
	if found[0] < 5000 || found[1] < 5000 {
		t.Error(found)
	}
}

// P8.4: the rank, also of clauses that are not valid.
func TestRank(t *testing.T) {
	for i, x := range []struct {
		l    []api.Clause
		want int
	}{
		{nil, 0},
		{[]api.Clause{{}}, 0},
		{[]api.Clause{clauseOf(ints(0), nil)}, 0},
		{[]api.Clause{clauseOf(nil, ints(0, 1, 2))}, 1},
		{[]api.Clause{clauseOf(nil, nil, ints(0, 1, 2))}, 1},
		{[]api.Clause{clauseOf(nil, ints(0), ints(0))}, 2},
		{[]api.Clause{clauseOf(nil, nil, ints(0), ints(0))}, 2},
		{[]api.Clause{clauseOf(ints(0), ints(0), ints(0), ints(0))}, 3},
		{[]api.Clause{clauseOf(nil, ints(0), ints(0)), {}, clauseOf(nil, nil, ints(0))}, 2},
		{[]api.Clause{{}, clauseOf(nil, nil, ints(0)), clauseOf(nil, nil, ints(0), ints(0))}, 2},
		{[]api.Clause{clauseOf(nil, ints(minInt), nil, nil, ints(-1), nil)}, 5},
		{slices.Repeat([]api.Clause{clauseOf(nil, nil, nil)}, api.MaxClauses+1), 1},
	} {
		if rank := Rank(x.l); rank != x.want || rank != plainRank(x.l) {
			t.Errorf("%d: %d, not %d", i, rank, x.want)
		}
	}
}

// P8.4: the order of clauses, also of those that are not valid.
func TestCompareClause(t *testing.T) {
	order := []api.Clause{
		{},
		clauseOf(nil, ints(minInt)),
		clauseOf(nil, ints(-1)),
		clauseOf(nil, ints(0)),
		clauseOf(nil, ints(0, 1)),
		clauseOf(nil, ints(1)),
		clauseOf(ints(0), nil),
		clauseOf(ints(0), ints(5)),
		clauseOf(ints(0, 1), nil),
		clauseOf(ints(1), nil),
		clauseOf(ints(maxInt), nil),
		clauseOf(nil, nil, nil),
		clauseOf(ints(9), ints(9), nil),
		clauseOf(nil, nil, ints(0)),
		clauseOf(nil, ints(3), ints(0)),
		clauseOf(ints(3), nil, ints(0)),
		clauseOf(nil, nil, ints(0, 0)),
		clauseOf(nil, nil, ints(0, 1)),
		clauseOf(nil, nil, ints(1)),
		clauseOf(nil, nil, nil, ints(7)),
		clauseOf(nil, nil, ints(0), ints(1, 1, 1)),
		clauseOf(nil, nil, ints(0), ints(2)),
		clauseOf(nil, nil, ints(0, 1), ints(0)),
		clauseOf(nil, ints(1), ints(0, 1), ints(0)),
		clauseOf(ints(0), nil, ints(0, 1), ints(0)),
		clauseOf(nil, nil, ints(1), ints(0)),
		clauseOf(nil, nil, nil, nil, nil),
		clauseOf(nil, nil, nil, nil, nil, ints(0)),
		clauseOf(nil, nil, nil, nil, ints(0), nil),
	}
	for i, a := range order {
		for k, b := range order {
			want := 0
			if i < k {
				want = -1
			} else if i > k {
				want = 1
			}
			if got := CompareClause(a, b); got != want {
				t.Errorf("%d, %d: %d", i, k, got)
			}
		}
	}
}
