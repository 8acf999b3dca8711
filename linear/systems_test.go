package linear

import (
	"testing"

	"familycheck/api"
)

// invalid has systems with the error of Validate.
func invalid() map[string]struct {
	s api.System
	e api.Errno
} {
	type x = struct {
		s api.System
		e api.Errno
	}
	const m = api.MaxNumber
	return map[string]x{
		"vars -1":                       {system(-1), api.ErrArg},
		"vars 97":                       {system(97), api.ErrArg},
		"vars minInt":                   {system(minInt), api.ErrArg},
		"vars maxInt":                   {system(maxInt), api.ErrArg},
		"vars 97 with such a row":       {system(97, wide(97)), api.ErrArg},
		"vars -1 with a row of none":    {system(-1, row(0)), api.ErrArg},
		"a short row":                   {system(2, row(1, 2)), api.ErrArg},
		"a long row":                    {system(1, row(1, 2, 3)), api.ErrArg},
		"no coefficients":               {system(1, api.Row{}), api.ErrArg},
		"a wrong row behind a large":    {system(2, row(m+1, 0, 0), row(0, 1)), api.ErrArg},
		"a wrong row behind too many":   {system(1, append(repeat(1, 200, row(0, 1)).Rows, row(0))...), api.ErrArg},
		"193 rows":                      {repeat(1, 193, row(0, 1)), api.ErrLarge},
		"193 rows without coefficients": {api.System{Rows: make([]api.Row, 193)}, api.ErrLarge},
		"a constant above":              {system(1, row(m+1, 0)), api.ErrLarge},
		"a constant below":              {system(1, row(-m-1, 0)), api.ErrLarge},
		"a coefficient above":           {system(2, row(0, 0, 0), row(0, 0, m+1)), api.ErrLarge},
		"a coefficient below":           {system(1, row(0, -m-1)), api.ErrLarge},
		"a coefficient minInt":          {system(1, row(0, minInt)), api.ErrLarge},
	}
}

// P1.1
func TestValidate(t *testing.T) {
	for name, x := range invalid() {
		if e := Validate(x.s); e != x.e {
			t.Errorf("%s: error %d, want %d", name, e, x.e)
		}
	}
	for i, s := range []api.System{
		system(0),
		system(0, row(3), row(-3)),
		{Vars: 0, Rows: []api.Row{}},
		{Vars: 0, Rows: []api.Row{{Coef: []int{}}, {Coef: nil}}},
		system(2),
		system(2, row(1, 2, 3)),
		system(96, wide(96)),
		repeat(1, 192, row(0, 1)),
		system(1, row(api.MaxNumber, -api.MaxNumber), row(-api.MaxNumber, api.MaxNumber)),
	} {
		if e := Validate(s); e != api.OK {
			t.Errorf("%d: error %d", i, e)
		}
	}
}

// Every function that takes a system and returns an error returns that of Validate first, and nothing else (R3).
func TestErrorOfValidateFirst(t *testing.T) {
	for name, x := range invalid() {
		if s, e := Append(x.s, row(maxInt, 1, 2, 3)); e != x.e || !isZeroSystem(s) {
			t.Errorf("%s: Append: %v, error %d", name, s, e)
		}
		if s, e := Normalize(x.s); e != x.e || !isZeroSystem(s) {
			t.Errorf("%s: Normalize: %v, error %d", name, s, e)
		}
		if s, e := Substitute(x.s, -1, -1); e != x.e || !isZeroSystem(s) {
			t.Errorf("%s: Substitute: %v, error %d", name, s, e)
		}
		if s, e := Eliminate(x.s, -1); e != x.e || !isZeroSystem(s) {
			t.Errorf("%s: Eliminate: %v, error %d", name, s, e)
		}
		if p, ok, e := Least(x.s, -1); e != x.e || ok || len(p) != 0 {
			t.Errorf("%s: Least: %v, %v, error %d", name, p, ok, e)
		}
		if o, e := Solve(x.s, 300); e != x.e || !sameOutcome(o, api.Outcome{}) {
			t.Errorf("%s: Solve: %v, error %d", name, o, e)
		}
		if k, e := Entails(x.s, row(maxInt, 1, 2, 3), 300); e != x.e || k != 0 {
			t.Errorf("%s: Entails: %d, error %d", name, k, e)
		}
		if Satisfies(x.s, make([]int, min(max(x.s.Vars, 0), 100))) {
			t.Errorf("%s: Satisfies", name)
		}
		if CheckRefutation(x.s, api.Refutation{Nodes: []api.Node{{Var: -1}}}) {
			t.Errorf("%s: CheckRefutation", name)
		}
	}
}

// P1.2
func TestSatisfies(t *testing.T) {
	s := system(2, row(-3, 1, 1), row(2, -1, 0))
	for i, x := range []struct {
		s    api.System
		p    []int
		want bool
	}{
		{s, []int{2, 1}, true},
		{s, []int{0, 3}, true},
		{s, []int{3, 1}, false},
		{s, []int{1, 1}, false},
		{s, []int{2}, false},
		{s, []int{2, 1, 0}, false},
		{s, nil, false},
		{s, []int{2, -1}, false},
		{s, []int{0, api.MaxPoint}, true},
		{s, []int{0, api.MaxPoint + 1}, false},
		{s, []int{0, maxInt}, false},
		{system(0), nil, true},
		{system(0), []int{}, true},
		{system(0), []int{0}, false},
		{system(0, row(0), row(5)), nil, true},
		{system(0, row(0), row(-1)), nil, false},
		{system(1), []int{7}, true},
		{system(1), []int{-1}, false},
		{system(1, row(0, -1)), []int{0}, true},
		{system(1, row(0, -1)), []int{1}, false},
	} {
		if got := Satisfies(x.s, x.p); got != x.want {
			t.Errorf("%d: %v", i, got)
		}
	}
}

// P1.6
func TestAppend(t *testing.T) {
	for i, x := range []struct {
		s    api.System
		r    api.Row
		want api.System
		e    api.Errno
	}{
		{system(1), row(1, 2), system(1, row(1, 2)), api.OK},
		{system(1, row(5, 6), row(0, 0)), row(1, 2), system(1, row(5, 6), row(0, 0), row(1, 2)), api.OK},
		{system(0), row(-3), system(0, row(-3)), api.OK},
		{system(1), row(1), api.System{}, api.ErrArg},
		{system(1), row(1, 2, 3), api.System{}, api.ErrArg},
		{system(1), row(maxInt), api.System{}, api.ErrArg},
		{system(1), row(api.MaxNumber+1, 0), api.System{}, api.ErrLarge},
		{system(1), row(api.MaxNumber, 0), system(1, row(api.MaxNumber, 0)), api.OK},
		{repeat(1, 191, row(0, 1)), row(0, 1), repeat(1, 192, row(0, 1)), api.OK},
		{repeat(1, 192, row(0, 1)), row(0, 1), api.System{}, api.ErrLarge},
		{repeat(1, 192, row(0, 1)), row(0), api.System{}, api.ErrArg},
	} {
		if s, e := Append(x.s, x.r); e != x.e || !sameSystem(s, x.want) {
			t.Errorf("%d: %v, error %d", i, s, e)
		}
	}
}

// P1.6
func TestNormalize(t *testing.T) {
	for i, x := range []struct{ s, want api.System }{
		{
			system(2, row(5, -2, 0), row(1, 1, 1), row(3, -1, 0), row(0, -1, 1), row(4, -2, 2)),
			system(2, row(2, -1, 0), row(0, -1, 1)),
		},
		{system(0), system(0)},
		{system(3), system(3)},
		{system(0, row(3), row(0), row(-3), row(-4)), system(0, row(-4))},
		{system(1, row(-1, 1), row(-2, 1), row(-3, 2), row(-2, 1)), system(1, row(-2, 1))},
		{system(1, row(-1, 0), row(0, 0), row(1, 0)), system(1, row(-1, 0))},
		{system(2, row(0, 1, -1), row(-9, 1, -2), row(9, -1, 2), row(0, 0, -7)), system(2, row(9, -1, 2), row(0, 0, -1), row(-9, 1, -2), row(0, 1, -1))},
		{system(1, row(-api.MaxNumber, api.MaxNumber)), system(1, row(-1, 1))},
	} {
		if s, e := Normalize(x.s); e != api.OK || !sameSystem(s, x.want) {
			t.Errorf("%d: %v, error %d; want %v", i, s, e, x.want)
		}
	}
}

// P1.6: the same points satisfy the system before and afterwards, and a second time changes nothing.
func TestNormalizeKeepsPoints(t *testing.T) {
	var x numbers = 6
	for range 300 {
		s := x.system(2, x.between(0, 5), 4)
		n, _ := Normalize(s)
		points(2, 5, func(p []int) bool {
			if holdAll(s, p) != holdAll(n, p) {
				t.Fatalf("%v, %v at %v", s, n, p)
			}
			return true
		})
		if again, _ := Normalize(n); !sameSystem(again, n) {
			t.Fatalf("%v becomes %v", n, again)
		}
	}
}

// P1.7
func TestSubstitute(t *testing.T) {
	const m = api.MaxNumber
	s := system(2, row(5, -2, 0), row(1, 1, 1), row(5, -2, 0))
	for i, x := range []struct {
		s        api.System
		v, value int
		want     api.System
		e        api.Errno
	}{
		{s, 0, 2, system(2, row(1, 0, 0), row(3, 0, 1), row(1, 0, 0)), api.OK},
		{s, 1, 3, system(2, row(5, -2, 0), row(4, 1, 0), row(5, -2, 0)), api.OK},
		{s, 0, 0, system(2, row(5, 0, 0), row(1, 0, 1), row(5, 0, 0)), api.OK},
		{s, 0, api.MaxPoint, system(2, row(5-2*api.MaxPoint, 0, 0), row(1+api.MaxPoint, 0, 1), row(5-2*api.MaxPoint, 0, 0)), api.OK},
		{s, 0, api.MaxPoint + 1, api.System{}, api.ErrArg},
		{s, 0, -1, api.System{}, api.ErrArg},
		{s, 2, 0, api.System{}, api.ErrArg},
		{s, -1, 0, api.System{}, api.ErrArg},
		{s, minInt, 0, api.System{}, api.ErrArg},
		{s, maxInt, maxInt, api.System{}, api.ErrArg},
		{system(0, row(1)), 0, 0, api.System{}, api.ErrArg},
		{system(1), 0, 9, system(1), api.OK},
		{system(1, row(m-7, 1)), 0, 7, system(1, row(m, 0)), api.OK},
		{system(1, row(m-7, 1)), 0, 8, api.System{}, api.ErrLarge},
		{system(1, row(7-m, -1)), 0, 7, system(1, row(-m, 0)), api.OK},
		{system(1, row(7-m, -1)), 0, 8, api.System{}, api.ErrLarge},
		{system(1, row(m, m)), 0, api.MaxPoint, api.System{}, api.ErrLarge},
		{system(1, row(m, m)), 1, api.MaxPoint, api.System{}, api.ErrArg},
		{system(1, row(m, m)), 0, api.MaxPoint + 1, api.System{}, api.ErrArg},
	} {
		if s, e := Substitute(x.s, x.v, x.value); e != x.e || !sameSystem(s, x.want) {
			t.Errorf("%d: %v, error %d", i, s, e)
		}
	}
}

// P1.8
func TestEliminate(t *testing.T) {
	const m, k = api.MaxNumber, api.MaxMult
	for i, x := range []struct {
		s    api.System
		v    int
		want api.System
		e    api.Errno
	}{
		{system(2, row(0, -1, 1), row(5, 0, -1)), 1, system(2, row(5, -1, 0)), api.OK},
		{system(2, row(0, -1, 1), row(5, 0, -1)), 0, system(2, row(5, 0, -1)), api.OK},
		{system(2, row(-3, 4, 1), row(1, -6, 2)), 0, system(2, row(-1, 0, 1)), api.OK}, // 3 and 2 times give 7*x1 - 7
		{system(1, row(5, -2), row(-6, 2)), 0, system(1, row(-1, 0)), api.OK},
		{system(1, row(-5, 2)), 0, system(1), api.OK},
		{system(1, row(-5, -2)), 0, system(1, row(-5, 0)), api.OK},
		{system(1), 0, system(1), api.OK},
		{system(1, row(-5, 2)), 1, api.System{}, api.ErrArg},
		{system(1, row(-5, 2)), -1, api.System{}, api.ErrArg},
		{system(0), 0, api.System{}, api.ErrArg},
		{system(1, row(0, -k)), 0, system(1), api.OK},
		{system(1, row(0, -k-1)), 0, api.System{}, api.ErrLarge},               // the factor of v >= 0
		{system(1, row(-2, 2*k), row(4, -2)), 0, system(1), api.OK},            // factors k and 1
		{system(1, row(-2, 2*k+2), row(4, -2)), 0, api.System{}, api.ErrLarge}, // k+1 and 1
		{system(1, row(-2, 2*k+1), row(4, -2)), 0, api.System{}, api.ErrLarge}, // 2*k+1 and 2
		{system(2, row(0, 1, 0), row(m/2, -2, 1)), 0, system(2), api.OK},
		{system(2, row(0, 4, 0), row(m/4, -1, -1)), 0, system(2, row(m/4, 0, -1)), api.OK}, // 4 times m/4
		{system(2, row(0, 4, 0), row(m/4+1, -1, -1)), 0, api.System{}, api.ErrLarge},
		{system(2, row(1, 4, 0), row(m/4, -1, -1)), 0, api.System{}, api.ErrLarge},
		{system(2, row(0, 4, 0), row(0, -1, m)), 0, api.System{}, api.ErrLarge},
		{system(2, row(0, 4, 0), row(0, -1, m)), 2, api.System{}, api.ErrArg},
	} {
		if s, e := Eliminate(x.s, x.v); e != x.e || !sameSystem(s, x.want) {
			t.Errorf("%d: %v, error %d", i, s, e)
		}
	}
}

// P1.8: the list of rows before Normalize has at most MaxRows rows.
func TestEliminateManyRows(t *testing.T) {
	build := func(without, lower, upper int) api.System {
		s := system(2)
		for i := range without {
			s.Rows = append(s.Rows, row(-i, 0, 1))
		}
		for i := range lower {
			s.Rows = append(s.Rows, row(-i, 1, 1))
		}
		for i := range upper {
			s.Rows = append(s.Rows, row(100+i, -1, 0))
		}
		return s
	}
	for i, x := range []struct {
		s api.System
		e api.Errno
	}{
		{build(0, 11, 16), api.OK},        // 12 times 16 is 192
		{build(1, 11, 16), api.ErrLarge},  // 193
		{build(10, 12, 14), api.OK},       // 10 + 13*14 is 192
		{build(11, 12, 14), api.ErrLarge}, // 193
		{build(192, 0, 0), api.OK},
		{build(0, 0, 192), api.OK},
		{build(0, 192, 0), api.OK},
		{build(1, 0, 191), api.OK},
		{build(0, 1, 191), api.ErrLarge},
	} {
		s, e := Eliminate(x.s, 0)
		if e != x.e || e != api.OK && !isZeroSystem(s) {
			t.Errorf("%d: %v, error %d", i, s, e)
		}
	}
	if _, e := Eliminate(build(1, 11, 16), 2); e != api.ErrArg {
		t.Error("the variable comes first: error", e)
	}
}

// P1.8: a point that satisfies the system satisfies the result, which does not speak of the variable.
func TestEliminateKeepsPoints(t *testing.T) {
	var x numbers = 8
	for range 300 {
		s := x.system(3, x.between(0, 5), 4)
		v := x.below(3)
		n, e := Eliminate(s, v)
		if e != api.OK {
			t.Fatal(s, e)
		}
		for _, r := range n.Rows {
			if r.Coef[v] != 0 {
				t.Fatalf("%v has the variable %d", r, v)
			}
		}
		points(3, 3, func(p []int) bool {
			if holdAll(s, p) && !holdAll(n, p) {
				t.Fatalf("%v, %v at %v", s, n, p)
			}
			return true
		})
		if again, _ := Normalize(n); !sameSystem(again, n) {
			t.Fatalf("%v is not normal", n)
		}
	}
}

// R5
func TestSystemsShareNoMemory(t *testing.T) {
	rows := make([]api.Row, 3, 8)
	rows[0], rows[1], rows[2] = row(3, 1, -2), row(4, -2, 4), row(1, 0, -1)
	s := api.System{Vars: 2, Rows: rows}
	check := frozen(t, s)
	last := row(9, 1, 1)
	longer, _ := Append(s, last)
	spoil(longer.Rows...)
	check()
	if !sameRow(last, row(9, 1, 1)) || rows[:4][3].Coef != nil {
		t.Error("Append shares memory")
	}
	for i, f := range []func() (api.System, api.Errno){
		func() (api.System, api.Errno) { return Normalize(s) },
		func() (api.System, api.Errno) { return Substitute(s, 0, 1) },
		func() (api.System, api.Errno) { return Eliminate(s, 0) },
	} {
		n, e := f()
		if e != api.OK {
			t.Errorf("%d: error %d", i, e)
		}
		spoil(n.Rows...)
		check()
	}
}
