package linear

import (
	"math/big"
	"slices"
	"testing"

	"familycheck/api"
)

// P1.2
func TestValue(t *testing.T) {
	for i, x := range []struct {
		r     api.Row
		point []int
		want  int
		e     api.Errno
	}{
		{row(-7, 2, -3), []int{5, 1}, 0, api.OK},
		{row(-7, 2, -3), []int{0, 4}, -19, api.OK},
		{row(5), nil, 5, api.OK},
		{row(-5), []int{}, -5, api.OK},
		{row(0, 1), []int{api.MaxPoint}, api.MaxPoint, api.OK},
		{row(0, 1), []int{api.MaxPoint + 1}, 0, api.ErrArg},
		{row(0, 1), []int{-1}, 0, api.ErrArg},
		{row(0, 1), []int{maxInt}, 0, api.ErrArg},
		{row(0, 1), []int{minInt}, 0, api.ErrArg},
		{row(0, 1, 2), []int{1}, 0, api.ErrArg},
		{row(0, 1), []int{1, 2}, 0, api.ErrArg},
		{row(0, 1), nil, 0, api.ErrArg},
		{row(0), []int{0}, 0, api.ErrArg},
		{wide(96), make([]int, 96), 0, api.OK},
		{wide(97), make([]int, 97), 0, api.ErrArg},
		{row(api.MaxNumber, api.MaxNumber), []int{1}, 2 * api.MaxNumber, api.OK},
		{row(-api.MaxNumber, -api.MaxNumber), []int{1}, -2 * api.MaxNumber, api.OK},
		{row(api.MaxNumber+1, 1), []int{1}, 0, api.ErrLarge},
		{row(-api.MaxNumber-1, 1), []int{1}, 0, api.ErrLarge},
		{row(0, api.MaxNumber+1), []int{0}, 0, api.ErrLarge},
		{row(0, minInt), []int{0}, 0, api.ErrLarge},
		{row(0, api.MaxNumber+1), []int{-1}, 0, api.ErrArg},
		{row(api.MaxNumber+1, 1, 1), []int{1}, 0, api.ErrArg},
	} {
		if v, e := Value(x.r, x.point); v != x.want || e != x.e {
			t.Errorf("%d: %d, error %d; want %d, error %d", i, v, e, x.want, x.e)
		}
	}
}

// P1.2, R8: the largest value is exact.
func TestValueExtremes(t *testing.T) {
	for _, sign := range []int{1, -1} {
		r, p := wide(96), make([]int, 96)
		want := big.NewInt(int64(sign * api.MaxNumber))
		r.Const = sign * api.MaxNumber
		for v := range p {
			r.Coef[v], p[v] = sign*api.MaxNumber, api.MaxPoint
			want.Add(want, new(big.Int).Mul(big.NewInt(int64(sign*api.MaxNumber)), big.NewInt(api.MaxPoint)))
		}
		if v, e := Value(r, p); e != api.OK || big.NewInt(int64(v)).Cmp(want) != 0 {
			t.Errorf("%d, error %d; want %v", v, e, want)
		}
	}
}

// P1.3
func TestTighten(t *testing.T) {
	for i, x := range []struct{ r, want api.Row }{
		{row(-3, 2, -4), row(-2, 1, -2)},
		{row(3, 2, -4), row(1, 1, -2)},
		{row(-4, 2, -4), row(-2, 1, -2)},
		{row(-1, -6), row(-1, -1)},
		{row(7, -6, 9), row(2, -2, 3)},
		{row(-7, 0, 0, 5), row(-2, 0, 0, 1)},
		{row(5, 3, 7), row(5, 3, 7)},
		{row(-3, 0, 0), row(-3, 0, 0)},
		{row(-3), row(-3)},
		{row(0, 4), row(0, 1)},
		{row(api.MaxNumber, api.MaxNumber, -api.MaxNumber), row(1, 1, -1)},
		{row(-api.MaxNumber, 2), row(-api.MaxNumber/2, 1)},
		{row(4, 2*api.MaxNumber), row(4, 2*api.MaxNumber)},
		{row(2*api.MaxNumber, 2), row(2*api.MaxNumber, 2)},
		{row(2, minInt, 2), row(2, minInt, 2)},
		{row(minInt, 4), row(minInt, 4)},
	} {
		if r := Tighten(x.r); !sameRow(r, x.want) {
			t.Errorf("%d: %v, want %v", i, r, x.want)
		}
	}
	many := wide(200)
	many.Coef[199], many.Const = 3, 5
	if r := Tighten(many); len(r.Coef) != 200 || r.Coef[199] != 1 || r.Const != 1 {
		t.Error("a row of 200 coefficients:", r)
	}
}

// P1.3: the same points satisfy the row before and afterwards.
func TestTightenKeepsPoints(t *testing.T) {
	var x numbers = 3
	for range 500 {
		r := x.row(2, 4)
		for v := range r.Coef {
			r.Coef[v] *= x.between(1, 3)
		}
		tight := Tighten(r)
		points(2, 6, func(p []int) bool {
			if holds(r, p) != holds(tight, p) {
				t.Fatalf("%v, %v at %v", r, tight, p)
			}
			return true
		})
	}
}

// P1.4
func TestCombine(t *testing.T) {
	const m, k = api.MaxNumber, api.MaxMult
	for i, x := range []struct {
		a    api.Row
		ka   int
		b    api.Row
		kb   int
		want api.Row
		e    api.Errno
	}{
		{row(1, 2, 0), 3, row(-1, 0, 5), 2, row(1, 6, 10), api.OK},
		{row(1, 2), 1, row(-1, -2), 1, row(0, 0), api.OK},
		{row(1, 2), 0, row(-1, 3), 0, row(0, 0), api.OK},
		{row(3), 2, row(-4), 1, row(2), api.OK},
		{row(1, 2), k, row(0, -1), k, row(k, k), api.OK},
		{row(1, 2), k + 1, row(0, -1), 1, api.Row{}, api.ErrArg},
		{row(1, 2), 1, row(0, -1), k + 1, api.Row{}, api.ErrArg},
		{row(1, 2), -1, row(1, 2), 1, api.Row{}, api.ErrArg},
		{row(1, 2), 1, row(1, 2), minInt, api.Row{}, api.ErrArg},
		{row(1, 2), 1, row(1, 2, 3), 1, api.Row{}, api.ErrArg},
		{row(1), 1, row(1, 2), 1, api.Row{}, api.ErrArg},
		{wide(96), 1, wide(96), 1, wide(96), api.OK},
		{wide(97), 1, wide(97), 1, api.Row{}, api.ErrArg},
		{row(m, 2), 1, row(0, 2), 1, row(m, 4), api.OK},
		{row(m, 2), 1, row(1, 2), 1, api.Row{}, api.ErrLarge},
		{row(0, -m), 1, row(1, -1), 1, api.Row{}, api.ErrLarge},
		{row(0, m), k, row(0, -m), k, row(0, 0), api.OK},
		{row(m+1, 2), 0, row(1, 2), 1, api.Row{}, api.ErrLarge},
		{row(1, 2), 1, row(1, minInt), 0, api.Row{}, api.ErrLarge},
		{row(m+1, 2), -1, row(1, 2), 1, api.Row{}, api.ErrArg},
		{row(m+1, 2), 1, row(1), 1, api.Row{}, api.ErrArg},
	} {
		if r, e := Combine(x.a, x.ka, x.b, x.kb); e != x.e || !sameRow(r, x.want) {
			t.Errorf("%d: %v, error %d; want %v, error %d", i, r, e, x.want, x.e)
		}
	}
}

// P1.4
func TestNegate(t *testing.T) {
	const m = api.MaxNumber
	for i, x := range []struct {
		r, want api.Row
		e       api.Errno
	}{
		{row(4, 1, -2), row(-5, -1, 2), api.OK},
		{row(-1), row(0), api.OK},
		{row(0, 0), row(-1, 0), api.OK},
		{row(m-1, 1), row(-m, -1), api.OK},
		{row(m, 1), api.Row{}, api.ErrLarge},
		{row(-m, m, -m), row(m-1, -m, m), api.OK},
		{row(-m-1, 1), api.Row{}, api.ErrLarge},
		{row(0, m+1), api.Row{}, api.ErrLarge},
		{row(0, minInt), api.Row{}, api.ErrLarge},
		{row(minInt), api.Row{}, api.ErrLarge},
	} {
		if r, e := Negate(x.r); e != x.e || !sameRow(r, x.want) {
			t.Errorf("%d: %v, error %d; want %v, error %d", i, r, e, x.want, x.e)
		}
	}
	if r, e := Negate(wide(97)); e != api.OK || len(r.Coef) != 97 || r.Const != -1 {
		t.Error("a row of 97 coefficients:", r, e)
	}
	var x numbers = 4
	for range 300 {
		r := x.row(2, 5)
		n, _ := Negate(r)
		points(2, 5, func(p []int) bool {
			if holds(r, p) == holds(n, p) {
				t.Fatalf("%v and %v at %v", r, n, p)
			}
			return true
		})
	}
}

// P1.5
func TestContradictoryAndTrivial(t *testing.T) {
	for i, x := range []struct {
		r                      api.Row
		contradictory, trivial bool
	}{
		{row(-1, 0, -2), true, false},
		{row(-1, 0, 0), true, false},
		{row(-1), true, false},
		{row(0), false, true},
		{row(0, 0), false, true},
		{row(0, -1), false, false},
		{row(-1, 1), false, false},
		{row(-1, -5, 1), false, false},
		{row(0, 0, 2), false, true},
		{row(5, 3, 2), false, true},
		{row(5, -1), false, false},
		{row(5, 1, -1), false, false},
		{row(minInt, minInt), true, false},
		{row(maxInt, maxInt), false, true},
		{row(minInt, maxInt), false, false},
	} {
		if Contradictory(x.r) != x.contradictory || Trivial(x.r) != x.trivial {
			t.Errorf("%d: %v is contradictory: %v, trivial: %v", i, x.r, Contradictory(x.r), Trivial(x.r))
		}
	}
}

// P1.5
func TestCompare(t *testing.T) {
	ascending := []api.Row{
		row(minInt), row(-1), row(0), row(7),
		row(0, minInt), row(9, -3), row(-9, -2), row(-8, -2, 0), row(5, 0), row(4, 0, -5), row(0, 0, 0), row(1, 0, 0), row(-5, 1), row(5, 1), row(0, 1, 0), row(0, 1, 0, 0), row(0, 2), row(0, maxInt),
	}
	for i, a := range ascending {
		for k, b := range ascending {
			want := 0
			if i < k {
				want = -1
			} else if i > k {
				want = 1
			}
			if c := Compare(a, b); c != want {
				t.Errorf("%v and %v: %d", a, b, c)
			}
		}
	}
	if Compare(api.Row{Coef: nil}, api.Row{Coef: []int{}}) != 0 {
		t.Error("nil and empty are the same (R4)")
	}
}

// R5
func TestRowsShareNoMemory(t *testing.T) {
	a, b := row(3, 1, 2), row(4, 2, 4)
	check := frozen(t, system(2, a, b))
	tight := Tighten(a)
	halved := Tighten(b)
	large := row(maxInt, 2)
	same := Tighten(large)
	sum, _ := Combine(a, 1, b, 0)
	negated, _ := Negate(a)
	spoil(tight, halved, same, sum, negated)
	check()
	if !slices.Equal(large.Coef, []int{2}) {
		t.Error("Tighten shares the memory of a row that it leaves as it is")
	}
}
