package linear

import (
	"slices"
	"testing"

	"familycheck/api"
)

// P1.9
func TestLeast(t *testing.T) {
	sum := func(c int) api.System { return system(2, row(c, 1, 1)) }
	for i, x := range []struct {
		s     api.System
		bound int
		want  []int
		ok    bool
		e     api.Errno
	}{
		{sum(-3), 2, []int{1, 2}, true, api.OK},
		{sum(-3), 3, []int{0, 3}, true, api.OK},
		{sum(-4), 2, []int{2, 2}, true, api.OK},
		{sum(-5), 2, nil, false, api.OK},
		{sum(0), 0, []int{0, 0}, true, api.OK},
		{sum(-1), 0, nil, false, api.OK},
		{sum(-3), -1, nil, false, api.ErrArg},
		{sum(-3), minInt, nil, false, api.ErrArg},
		{sum(-3), api.MaxPoint + 1, nil, false, api.ErrArg},
		{sum(-3), maxInt, nil, false, api.ErrArg},
		{system(0), api.MaxPoint, nil, true, api.OK},
		{system(0, row(0)), 5, nil, true, api.OK},
		{system(0, row(0), row(-1)), 5, nil, false, api.OK},
		{system(0), api.MaxPoint + 1, nil, false, api.ErrArg},
		{system(1, row(-99999, 1)), 99999, []int{99999}, true, api.OK}, // 100000 points
		{system(1, row(-1, 1)), 100000, nil, false, api.ErrLarge},
		{system(1), api.MaxPoint, nil, false, api.ErrLarge},
		{system(2), 315, []int{0, 0}, true, api.OK}, // 99856 points
		{system(2), 316, nil, false, api.ErrLarge},  // 100489 points
		{system(5), 9, make([]int, 5), true, api.OK},
		{system(6), 9, nil, false, api.ErrLarge},
		{system(16), 1, make([]int, 16), true, api.OK},
		{system(17), 1, nil, false, api.ErrLarge},
		{system(96), 1, nil, false, api.ErrLarge},
		{system(96), api.MaxPoint, nil, false, api.ErrLarge},
		{system(96), 0, make([]int, 96), true, api.OK},
		{system(96, append(repeat(96, 191, wide(96)).Rows, api.Row{Coef: make([]int, 96), Const: -1})...), 0, nil, false, api.OK},
		{system(2, row(0, 1, -3), row(-4, 0, 1)), 12, []int{12, 4}, true, api.OK},
		{system(2, row(-1, 2, -2), row(1, -2, 2)), 300, nil, false, api.OK},
		{system(1, row(-api.MaxNumber, api.MaxNumber)), 5, []int{1}, true, api.OK},
	} {
		if p, ok, e := Least(x.s, x.bound); e != x.e || ok != x.ok || !slices.Equal(p, x.want) {
			t.Errorf("%d: %v, %v, error %d", i, p, ok, e)
		}
	}
}

// P1.9: the first point of a plain search.
func TestLeastIsFirst(t *testing.T) {
	var x numbers = 9
	found := 0
	for range 1500 {
		s := x.system(x.between(0, 4), x.between(0, 5), 5)
		bound := x.between(0, 4)
		var want []int
		ok := false
		points(s.Vars, bound, func(p []int) bool {
			if holdAll(s, p) {
				want, ok = p, true
				found++
			}
			return !ok
		})
		check := frozen(t, s)
		p, has, e := Least(s, bound)
		if e != api.OK || has != ok || !slices.Equal(p, want) {
			t.Fatalf("%v, bound %d: %v, %v, error %d; want %v, %v", s, bound, p, has, e, want, ok)
		}
		check()
	}
	if found < 300 || found > 1200 {
		t.Error("too few cases of one kind:", found)
	}
}
