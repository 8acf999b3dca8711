package linear

import (
	"math/bits"

	"familycheck/api"
)

// A dictionary is the state of the simplex method. Every unknown has a name, as in api.Derivation: a row's number for the value of that row, -1-v for the variable v. All unknowns are at least 0 and, at the points that are looked for, integers. Some of them, the free ones, belong to columns; an equation gives each basic one in terms of these.
type dictionary struct {
	basic     []int   // the name that each equation defines
	free      []int   // the name of each column
	equations [][]int // for each basic name: a positive divisor, a constant, and a factor for each column
	cost      []int   // the sum of the variables, as an equation; its factors are never negative
}

// Where an equation has its parts.
const (
	divisor  = 0
	constant = 1
	columns  = 2
)

// manyPivots is the number of pivots after which repair no longer trusts the fast rule to end.
const manyPivots = 150

// What repair finds.
const (
	gaveUp = iota
	repaired
	impossible
)

func newDictionary(vars int) *dictionary {
	d := &dictionary{cost: make([]int, columns+vars)}
	d.cost[divisor] = 1
	for v := range vars {
		d.free = append(d.free, -1-v)
		d.cost[columns+v] = 1
	}
	return d
}

// add adds the equation of one more basic name.
func (d *dictionary) add(name int, equation []int) {
	reduce(equation)
	d.basic = append(d.basic, name)
	d.equations = append(d.equations, equation)
}

// addRow adds the equation of a row of the system. No column may have been exchanged before.
func (d *dictionary) addRow(name int, r api.Row) {
	equation := make([]int, columns+len(r.Coef))
	equation[divisor] = 1
	equation[constant] = r.Const
	copy(equation[columns:], r.Coef)
	d.add(name, equation)
}

func (d *dictionary) clone() *dictionary {
	c := &dictionary{
		basic:     make([]int, len(d.basic)),
		free:      make([]int, len(d.free)),
		equations: make([][]int, len(d.equations)),
		cost:      cloneNumbers(d.cost),
	}
	copy(c.basic, d.basic)
	copy(c.free, d.free)
	for i, e := range d.equations {
		c.equations[i] = cloneNumbers(e)
	}
	return c
}

func cloneNumbers(l []int) []int {
	c := make([]int, len(l))
	copy(c, l)
	return c
}

// repair is the dual simplex method: it exchanges names until no constant is negative. If an equation with a negative constant has no positive factor, the rows contradict each other, and repair returns its number. It takes its work from the store that work points to.
func (d *dictionary) repair(work *int) (int, int) {
	for pivots := 0; ; pivots++ {
		row := d.leaving(pivots >= manyPivots)
		if row < 0 {
			return repaired, 0
		}
		column := d.entering(row)
		if column < 0 {
			return impossible, row
		}
		if *work < 0 || !d.pivot(row, column, work) {
			return gaveUp, 0
		}
	}
}

// leaving chooses an equation with a negative constant: the one that is farthest off, or the one with the smallest name, which is slow but never runs in circles (Bland's rule).
func (d *dictionary) leaving(byName bool) int {
	best := -1
	for i, e := range d.equations {
		if e[constant] >= 0 {
			continue
		}
		better := best < 0
		if !better && byName {
			better = d.basic[i] < d.basic[best]
		} else if !better {
			better = fartherOff(e, d.equations[best])
		}
		if better {
			best = i
		}
	}
	return best
}

// fartherOff compares the values of two equations where all free names are 0.
func fartherOff(a, b []int) bool {
	return lessProduct(b[constant], a[divisor], a[constant], b[divisor])
}

// lessProduct reports whether |a*b| < |c*d|, also where these are too large for int.
func lessProduct(a, b, c, d int) bool {
	high1, low1 := bits.Mul64(magnitude(a), magnitude(b))
	high2, low2 := bits.Mul64(magnitude(c), magnitude(d))
	return high1 < high2 || high1 == high2 && low1 < low2
}

// entering chooses the column that keeps the factors of the cost from becoming negative; of several the one with the smallest name.
func (d *dictionary) entering(row int) int {
	e := d.equations[row]
	best := -1
	for c := columns; c < len(e); c++ {
		if e[c] <= 0 {
			continue
		}
		if best < 0 || lessProduct(d.cost[c], e[best], d.cost[best], e[c]) ||
			d.free[c-columns] < d.free[best-columns] && !lessProduct(d.cost[best], e[c], d.cost[c], e[best]) {
			best = c
		}
	}
	return best
}

// pivot exchanges the basic name of an equation and the free name of a column. False if a number became too large; the dictionary is then of no use any more.
func (d *dictionary) pivot(row, column int, work *int) bool {
	solved := solveFor(d.equations[row], column)
	*work -= len(d.equations) + len(solved)
	for i, e := range d.equations {
		if i == row || e[column] == 0 {
			continue
		}
		*work -= len(e)
		if !replaceColumn(e, column, solved) {
			return false
		}
	}
	if d.cost[column] != 0 && !replaceColumn(d.cost, column, solved) {
		return false
	}
	d.equations[row] = solved
	d.basic[row], d.free[column-columns] = d.free[column-columns], d.basic[row]
	return true
}

// solveFor turns the equation round, so that it defines the name of the column by the others.
func solveFor(e []int, column int) []int {
	solved := negated(e)
	solved[divisor], solved[column] = e[column], e[divisor]
	return solved
}

// negated returns the equation of the negated value that e defines.
func negated(e []int) []int {
	n := make([]int, len(e))
	n[divisor] = e[divisor]
	for i := constant; i < len(e); i++ {
		n[i] = -e[i]
	}
	return n
}

// replaceColumn puts the equation solved in place of the name of the column in e.
func replaceColumn(e []int, column int, solved []int) bool {
	g := gcd(e[column], solved[divisor])
	factor, scale := e[column]/g, solved[divisor]/g
	e[column] = 0
	var ok bool
	if e[divisor], ok = multiply(e[divisor], scale); !ok {
		return false
	}
	for i := constant; i < len(e); i++ {
		old, ok1 := multiply(e[i], scale)
		added, ok2 := multiply(solved[i], factor)
		if !ok1 || !ok2 {
			return false
		}
		e[i] = old + added
	}
	reduce(e)
	return true
}

// multiply returns a product that is small enough for the sum of two of them; false if it is too large.
func multiply(a, b int) (int, bool) {
	const half, whole = 1 << 31, 1 << 62
	if a < half && a > -half && b < half && b > -half {
		return a * b, true
	}
	high, low := bits.Mul64(magnitude(a), magnitude(b))
	return a * b, high == 0 && low < whole
}

func magnitude(a int) uint64 {
	return uint64(max(a, -a))
}

// reduce divides an equation by the greatest common divisor of its numbers.
func reduce(e []int) {
	g := e[divisor]
	for _, x := range e[constant:] {
		if g == 1 {
			return
		}
		if x != 0 {
			g = gcd(g, x)
		}
	}
	if g > 1 {
		for i := range e {
			e[i] /= g
		}
	}
}

// fractional reports whether the name of an equation has no integer value where all free names are 0.
func fractional(e []int) bool {
	return e[constant]%e[divisor] != 0
}

// keep removes the equations whose names do not satisfy wanted.
func (d *dictionary) keep(wanted func(name int) bool) {
	n := 0
	for i, name := range d.basic {
		if wanted(name) {
			d.basic[n], d.equations[n] = name, d.equations[i]
			n++
		}
	}
	d.basic, d.equations = d.basic[:n], d.equations[:n]
}

// point returns the values of the variables where all free names are 0.
func (d *dictionary) point() []int {
	p := make([]int, len(d.free))
	for i, name := range d.basic {
		if name < 0 {
			p[-1-name] = d.equations[i][constant] / d.equations[i][divisor]
		}
	}
	return p
}
