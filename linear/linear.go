// Package linear decides conjunctions of linear constraints over nonnegative integers.
//
// A row stands for the constraint Coef[0]*x0 + Coef[1]*x1 + .. + Const >= 0. A system is satisfied by the points that satisfy all its rows. The solver gives evidence with its answers: a point, or a refutation that CheckRefutation accepts without trusting the solver.
package linear

import (
	"slices"

	"familycheck/api"
)

// Validate returns the first error of s: see P1.1.
func Validate(s api.System) api.Errno {
	if s.Vars < 0 || s.Vars > api.MaxVars {
		return api.ErrArg
	}
	for _, r := range s.Rows {
		if len(r.Coef) != s.Vars {
			return api.ErrArg
		}
	}
	if len(s.Rows) > api.MaxRows || !allSmall(s.Rows) {
		return api.ErrLarge
	}
	return api.OK
}

// Satisfies reports whether s is valid and point is one of its solutions.
func Satisfies(s api.System, point []int) bool {
	if Validate(s) != api.OK || len(point) != s.Vars || !isPoint(point) {
		return false
	}
	for _, r := range s.Rows {
		if valueAt(r, point) < 0 {
			return false
		}
	}
	return true
}

// Append returns s with r as one more row at the end.
func Append(s api.System, r api.Row) (api.System, api.Errno) {
	if e := Validate(s); e != api.OK {
		return api.System{}, e
	}
	longer := api.System{Vars: s.Vars, Rows: append(cloneRows(s.Rows), cloneRow(r))}
	if e := Validate(longer); e != api.OK {
		return api.System{}, e
	}
	return longer, api.OK
}

// Normalize returns the rows of s that say something, each in its tightest form, in ascending order.
func Normalize(s api.System) (api.System, api.Errno) {
	if e := Validate(s); e != api.OK {
		return api.System{}, e
	}
	return api.System{Vars: s.Vars, Rows: normalRows(s.Rows)}, api.OK
}

func normalRows(rows []api.Row) []api.Row {
	var kept []api.Row
	for _, r := range rows {
		if t := Tighten(r); !Trivial(t) {
			kept = append(kept, t)
		}
	}
	slices.SortFunc(kept, Compare)
	// Of rows with equal coefficients the one with the smallest constant comes first, and CompactFunc keeps the first.
	return slices.CompactFunc(kept, sameCoefficients)
}

func sameCoefficients(a, b api.Row) bool {
	return slices.Equal(a.Coef, b.Coef)
}

// Substitute returns s with value in place of the variable v.
func Substitute(s api.System, v, value int) (api.System, api.Errno) {
	if e := Validate(s); e != api.OK {
		return api.System{}, e
	}
	if v < 0 || v >= s.Vars || value < 0 || value > api.MaxPoint {
		return api.System{}, api.ErrArg
	}
	rows := cloneRows(s.Rows)
	for i := range rows {
		rows[i].Const += rows[i].Coef[v] * value
		rows[i].Coef[v] = 0
		if !smallNumber(rows[i].Const) {
			return api.System{}, api.ErrLarge
		}
	}
	return api.System{Vars: s.Vars, Rows: rows}, api.OK
}

// Eliminate returns a system without the variable v that every solution of s satisfies (a step of Fourier and Motzkin).
func Eliminate(s api.System, v int) (api.System, api.Errno) {
	if e := Validate(s); e != api.OK {
		return api.System{}, e
	}
	if v < 0 || v >= s.Vars {
		return api.System{}, api.ErrArg
	}
	rows, lower, upper := bounds(s, v)
	if len(rows)+len(lower)*len(upper) > api.MaxRows {
		return api.System{}, api.ErrLarge
	}
	for _, l := range lower {
		for _, u := range upper {
			r, e := cancel(l, u, v)
			if e != api.OK {
				return api.System{}, e
			}
			rows = append(rows, r)
		}
	}
	return api.System{Vars: s.Vars, Rows: normalRows(rows)}, api.OK
}

// bounds returns the rows of s without the variable v, those that bound it from below (first the row v >= 0), and those that bound it from above.
func bounds(s api.System, v int) (others, lower, upper []api.Row) {
	lower = append(lower, axisRow(s.Vars, v, 1, 0))
	for _, r := range s.Rows {
		switch c := r.Coef[v]; {
		case c == 0:
			others = append(others, r)
		case c > 0:
			lower = append(lower, r)
		default:
			upper = append(upper, r)
		}
	}
	return others, lower, upper
}

// cancel adds multiples of l and u in which the terms of v cancel each other.
func cancel(l, u api.Row, v int) (api.Row, api.Errno) {
	a, b := l.Coef[v], -u.Coef[v]
	g := gcd(a, b)
	if a/g > api.MaxMult || b/g > api.MaxMult {
		return api.Row{}, api.ErrLarge
	}
	return Combine(l, b/g, u, a/g)
}
