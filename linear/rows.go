package linear

import (
	"cmp"
	"slices"

	"familycheck/api"
)

// Value returns the value of the left side of r at point.
func Value(r api.Row, point []int) (int, api.Errno) {
	if len(r.Coef) != len(point) || len(r.Coef) > api.MaxVars || !isPoint(point) {
		return 0, api.ErrArg
	}
	if !small(r) {
		return 0, api.ErrLarge
	}
	return valueAt(r, point), api.OK
}

// valueAt needs a small row with one coefficient for each coordinate: then no sum leaves the range of int.
func valueAt(r api.Row, point []int) int {
	sum := r.Const
	for i, c := range r.Coef {
		sum += c * point[i]
	}
	return sum
}

// Tighten divides r by the greatest common divisor of its coefficients and rounds the constant down.
func Tighten(r api.Row) api.Row {
	t := cloneRow(r)
	if !small(r) {
		return t
	}
	g := contentOf(r)
	if g == 0 {
		return t
	}
	for i := range t.Coef {
		t.Coef[i] /= g
	}
	t.Const = floorDiv(t.Const, g)
	return t
}

// contentOf returns the greatest common divisor of the coefficients of a small row, 0 if all of them are 0.
func contentOf(r api.Row) int {
	g := 0
	for _, c := range r.Coef {
		g = gcd(g, c)
	}
	return g
}

// Combine returns the row ka*a + kb*b.
func Combine(a api.Row, ka int, b api.Row, kb int) (api.Row, api.Errno) {
	if len(a.Coef) != len(b.Coef) || len(a.Coef) > api.MaxVars || !isFactor(ka) || !isFactor(kb) {
		return api.Row{}, api.ErrArg
	}
	if !small(a) || !small(b) {
		return api.Row{}, api.ErrLarge
	}
	sum := api.Row{Coef: make([]int, len(a.Coef)), Const: ka*a.Const + kb*b.Const}
	for i := range sum.Coef {
		sum.Coef[i] = ka*a.Coef[i] + kb*b.Coef[i]
	}
	if !small(sum) {
		return api.Row{}, api.ErrLarge
	}
	return sum, api.OK
}

func isFactor(k int) bool {
	return k >= 0 && k <= api.MaxMult
}

// Negate returns the row that exactly the points satisfy that do not satisfy r.
func Negate(r api.Row) (api.Row, api.Errno) {
	if !small(r) {
		return api.Row{}, api.ErrLarge
	}
	n := api.Row{Coef: make([]int, len(r.Coef)), Const: -r.Const - 1}
	for i, c := range r.Coef {
		n.Coef[i] = -c
	}
	if !small(n) {
		return api.Row{}, api.ErrLarge
	}
	return n, api.OK
}

// Contradictory reports whether r fails at every point for a plain reason: it has no positive term.
func Contradictory(r api.Row) bool {
	return r.Const < 0 && !slices.ContainsFunc(r.Coef, isPositive)
}

// Trivial reports whether r holds at every point for a plain reason: it has no negative term.
func Trivial(r api.Row) bool {
	return r.Const >= 0 && !slices.ContainsFunc(r.Coef, isNegative)
}

func isPositive(c int) bool { return c > 0 }

func isNegative(c int) bool { return c < 0 }

// Compare orders rows by their coefficients and then by the constant.
func Compare(a, b api.Row) int {
	return cmp.Or(slices.Compare(a.Coef, b.Coef), cmp.Compare(a.Const, b.Const))
}

func small(r api.Row) bool {
	for _, c := range r.Coef {
		if !smallNumber(c) {
			return false
		}
	}
	return smallNumber(r.Const)
}

func allSmall(rows []api.Row) bool {
	for _, r := range rows {
		if !small(r) {
			return false
		}
	}
	return true
}

func smallNumber(c int) bool {
	return c >= -api.MaxNumber && c <= api.MaxNumber
}

func isPoint(point []int) bool {
	for _, x := range point {
		if !isCoordinate(x) {
			return false
		}
	}
	return true
}

func isCoordinate(x int) bool {
	return x >= 0 && x <= api.MaxPoint
}

func cloneRow(r api.Row) api.Row {
	c := api.Row{Coef: make([]int, len(r.Coef)), Const: r.Const}
	copy(c.Coef, r.Coef)
	return c
}

func cloneRows(rows []api.Row) []api.Row {
	c := make([]api.Row, len(rows))
	for i, r := range rows {
		c[i] = cloneRow(r)
	}
	return c
}

// axisRow returns the row with one coefficient, for the variable v.
func axisRow(vars, v, coef, constant int) api.Row {
	r := api.Row{Coef: make([]int, vars), Const: constant}
	r.Coef[v] = coef
	return r
}

// gcd returns the greatest common divisor of the absolute values of a and b, 0 if both are 0.
func gcd(a, b int) int {
	for b != 0 {
		a, b = b, a%b
	}
	return max(a, -a)
}

// floorDiv divides by a positive b and rounds toward minus infinity.
func floorDiv(a, b int) int {
	q := a / b
	if a%b < 0 {
		q--
	}
	return q
}

// floorMod returns what floorDiv leaves, from 0 to b - 1.
func floorMod(a, b int) int {
	m := a % b
	if m < 0 {
		m += b
	}
	return m
}
