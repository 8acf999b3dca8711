package linear

import (
	"cmp"
	"maps"
	"slices"

	"familycheck/api"
)

// The limits of one search.
const (
	mostWork = 20000000 // numbers of equations that pivots may write
	fewCuts  = 6        // cuts of one round
)

// Solve looks for a solution of s or for a refutation of at most that many nodes.
func Solve(s api.System, nodes int) (api.Outcome, api.Errno) {
	if e := Validate(s); e != api.OK {
		return api.Outcome{}, e
	}
	// Cuts decide more than splits alone, but their numbers may become too large. Without cuts, a system of a few variables with small bounds is always decided.
	for _, rounds := range [3]int{12, 3, 0} {
		if o := attempt(s, min(nodes, api.MaxNodes), rounds); o.Kind != api.Unknown {
			return o, api.OK
		}
	}
	return api.Outcome{}, api.OK
}

// Entails returns the kind of the outcome for s and the negation of r: Infeasible if s entails r.
func Entails(s api.System, r api.Row, nodes int) (int, api.Errno) {
	if e := Validate(s); e != api.OK {
		return api.Unknown, e
	}
	if len(r.Coef) != s.Vars {
		return api.Unknown, api.ErrArg
	}
	negated, e := Negate(r)
	if e != api.OK {
		return api.Unknown, e
	}
	longer, e := Append(s, negated)
	if e != api.OK {
		return api.Unknown, e
	}
	o, e := Solve(longer, nodes)
	return o.Kind, e
}

// A search refutes a system by branch and cut, or comes across a solution.
type search struct {
	facts
	system   api.System
	firstCut int   // the facts below it are rows of the system, and these tightened
	nodes    int   // how many more nodes it may visit
	rounds   int   // how many rounds of cuts each node has
	work     int   // how much more work pivots may do
	point    []int // the solution, once there is one
	solved   bool
}

func attempt(s api.System, nodes, rounds int) api.Outcome {
	known := facts{vars: s.Vars, rows: slices.Clone(s.Rows), made: make([]api.Derivation, len(s.Rows))}
	x := &search{facts: known, system: s, nodes: nodes, rounds: rounds, work: mostWork}
	d, lines := x.start()
	x.firstCut = len(x.rows)
	p := x.refute(d, lines)
	if x.solved {
		return api.Outcome{Kind: api.Feasible, Point: x.point}
	}
	if p == nil {
		return api.Outcome{}
	}
	r := x.refutation(p, len(s.Rows))
	if !CheckRefutation(s, r) {
		return api.Outcome{} // it has too many lines
	}
	return api.Outcome{Kind: api.Infeasible, Refutation: r}
}

// start returns the dictionary of the normal rows of the system, and the facts that tighten them.
func (x *search) start() (*dictionary, []int) {
	var lines, names []int
	for i, r := range x.system.Rows {
		name := i
		if t := Tighten(r); Compare(t, r) != 0 {
			name, _ = x.derive(api.Derivation{From: []int{i}, Mult: []int{1}, Div: contentOf(r)})
			lines = append(lines, name)
		}
		if !Trivial(x.rows[name]) {
			names = append(names, name)
		}
	}
	slices.SortFunc(names, func(a, b int) int { return cmp.Or(Compare(x.rows[a], x.rows[b]), cmp.Compare(a, b)) })
	names = slices.CompactFunc(names, func(a, b int) bool { return sameCoefficients(x.rows[a], x.rows[b]) })
	d := newDictionary(x.vars)
	for _, name := range names {
		d.addRow(name, x.rows[name])
	}
	return d, lines
}

// refute returns a proof that no solution satisfies the rows of d, or nil. The lines are the facts that the node has derived before.
func (x *search) refute(d *dictionary, lines []int) *proof {
	if x.nodes <= 0 {
		return nil
	}
	x.nodes--
	for round := 0; ; round++ {
		state, row := d.repair(&x.work)
		if state == gaveUp {
			return nil
		}
		if state == impossible {
			return x.leaf(d, row, lines)
		}
		if !slices.ContainsFunc(d.equations, fractional) {
			x.accept(d.point())
			return nil
		}
		var cuts []int
		if round < x.rounds {
			cuts = x.cut(d)
		}
		if len(cuts) == 0 {
			return x.split(d, lines)
		}
		lines = append(lines, cuts...)
	}
}

// accept keeps a point if it is a solution. It is none only if a coordinate is too large.
func (x *search) accept(point []int) {
	if Satisfies(x.system, point) {
		x.point, x.solved = point, true
	}
}

// leaf turns an impossible equation into a contradictory fact: a sum of rows, from which multiples of variables, which are never negative, are left out.
func (x *search) leaf(d *dictionary, row int, lines []int) *proof {
	e := d.equations[row]
	var terms []term
	if d.basic[row] >= 0 {
		terms = append(terms, term{d.basic[row], e[divisor]})
	}
	for c, name := range d.free {
		if name >= 0 && e[columns+c] < 0 {
			terms = append(terms, term{name, -e[columns+c]})
		}
	}
	first := len(x.rows)
	fact, ok := x.contradiction(terms)
	if !ok {
		return nil
	}
	for line := first; line < len(x.rows); line++ {
		lines = append(lines, line)
	}
	return &proof{lines: lines, needs: x.needs(fact), variable: -1}
}

// contradiction returns the fact that is the sum of the terms, made as small as it can be.
func (x *search) contradiction(terms []term) (int, bool) {
	if len(terms) == 1 {
		return terms[0].name, true
	}
	g := 0
	for _, t := range terms {
		g = gcd(g, t.factor)
	}
	for i := range terms {
		terms[i].factor /= g
	}
	return x.sum(terms)
}

// split refutes both halves of a node. If one half does not need its split row, its proof serves for the whole node.
func (x *search) split(d *dictionary, lines []int) *proof {
	row := splitEquation(d)
	if row < 0 {
		return nil
	}
	e := d.equations[row]
	p := &proof{lines: lines, variable: -1 - d.basic[row], at: e[constant] / e[divisor]}
	if !isCoordinate(p.at) {
		return nil
	}
	p.rows[0] = x.given(atMost(x.vars, p.variable, p.at))
	p.rows[1] = x.given(atLeast(x.vars, p.variable, p.at+1))
	halves := [2]*dictionary{d.clone(), d}
	halves[0].add(p.rows[0], belowEquation(e, p.at))
	halves[1].add(p.rows[1], aboveEquation(e, p.at+1))
	refuted := true
	for i, half := range halves {
		child := x.refute(half, nil)
		if x.solved {
			return nil
		}
		if child == nil {
			refuted = false
			continue
		}
		if !child.needs[p.rows[i]] {
			child.lines = append(lines, child.lines...)
			return child
		}
		p.children[i] = child
	}
	if !refuted {
		return nil
	}
	p.needs = maps.Clone(p.children[0].needs)
	maps.Copy(p.needs, p.children[1].needs)
	return p
}

// splitEquation chooses the variable to split: the first one with a value that is no integer.
func splitEquation(d *dictionary) int {
	best := -1
	for i, name := range d.basic {
		if name < 0 && fractional(d.equations[i]) && (best < 0 || name > d.basic[best]) {
			best = i
		}
	}
	return best
}

// belowEquation returns the equation of at - x for the variable x that e defines.
func belowEquation(e []int, at int) []int {
	b := negated(e)
	b[constant] += at * e[divisor]
	return b
}

// aboveEquation returns the equation of x - at for the variable x that e defines.
func aboveEquation(e []int, at int) []int {
	a := cloneNumbers(e)
	a[constant] -= at * e[divisor]
	return a
}
