package linear

import (
	"cmp"
	"slices"

	"familycheck/api"
)

// cut removes the old cuts that d does not lean on any more, adds some of Gomory's cuts to d, and returns their facts.
//
// Take an equation whose name has no integer value, and the fractions of its factors and of its constant. The sum of the free names, each times its fraction, differs by an integer from the negated fraction of the constant, and it is not negative. So it is at least 1 minus that fraction: this is the cut, and the free names are all 0 now, which does not satisfy it. In terms of the variables, this sum has integer coefficients, so that a derivation that divides and rounds down has the cut as its result.
func (x *search) cut(d *dictionary) []int {
	d.keep(func(name int) bool { return name < x.firstCut || !x.isDerived(name) })
	var cuts []int
	for _, row := range fractionalRows(d) {
		if len(cuts) == fewCuts {
			break
		}
		e := cutEquation(d.equations[row])
		if name, ok := x.derive(cutDerivation(d, e)); ok {
			d.add(name, e)
			cuts = append(cuts, name)
		}
	}
	return cuts
}

// fractionalRows returns the equations without an integer value, those with small divisors first: their cuts have small numbers.
func fractionalRows(d *dictionary) []int {
	var rows []int
	for i, e := range d.equations {
		if fractional(e) {
			rows = append(rows, i)
		}
	}
	slices.SortFunc(rows, func(a, b int) int {
		return cmp.Or(cmp.Compare(d.equations[a][divisor], d.equations[b][divisor]), cmp.Compare(d.basic[a], d.basic[b]))
	})
	return rows
}

// cutEquation returns the equation of the cut of e.
func cutEquation(e []int) []int {
	cut := make([]int, len(e))
	for i := constant; i < len(e); i++ {
		cut[i] = floorMod(e[i], e[divisor])
	}
	cut[divisor] = e[divisor]
	cut[constant] -= e[divisor]
	return cut
}

// cutDerivation returns the derivation of the cut with this equation. It is not correct if it has too many terms or too large numbers.
func cutDerivation(d *dictionary, cut []int) api.Derivation {
	made := api.Derivation{Div: cut[divisor]}
	for c, name := range d.free {
		if m := cut[columns+c]; m > 0 {
			made.From = append(made.From, name)
			made.Mult = append(made.Mult, m)
		}
	}
	return made
}
