package linear

import (
	"slices"

	"familycheck/api"
)

// Multipliers that are too large for one derivation are written in digits of this base.
const (
	digitBits = 16
	digitBase = 1 << digitBits
)

// facts are the rows that a search may use. A fact is a row of the system, a split row, or a row derived from facts before it; its derivation has their numbers in From. It is written only when it turns out to be needed.
type facts struct {
	vars int
	rows []api.Row
	made []api.Derivation
}

func (f *facts) given(r api.Row) int {
	f.rows = append(f.rows, r)
	f.made = append(f.made, api.Derivation{})
	return len(f.rows) - 1
}

func (f *facts) isDerived(name int) bool {
	return name >= 0 && len(f.made[name].From) > 0
}

// derive adds the row that d derives; false if d is not correct.
func (f *facts) derive(d api.Derivation) (int, bool) {
	r, ok := derive(f.vars, f.rows, d)
	if !ok {
		return 0, false
	}
	f.rows = append(f.rows, r)
	f.made = append(f.made, d)
	return len(f.rows) - 1, true
}

// A term is a multiple of the fact with this name, or, if the name is -1-v, of the variable v.
type term struct {
	name, factor int
}

// sum derives the sum of the terms, digit by digit, from the highest one on.
func (f *facts) sum(terms []term) (int, bool) {
	total := -1
	for shift := 64 - digitBits; shift >= 0; shift -= digitBits {
		level := digits(terms, shift)
		if total >= 0 {
			level = append(level, term{total, digitBase})
		}
		if len(level) == 0 {
			continue
		}
		var ok bool
		if total, ok = f.addUp(level); !ok {
			return 0, false
		}
	}
	return total, total >= 0
}

// digits returns the terms with one digit of each factor, without those that are 0.
func digits(terms []term, shift int) []term {
	var level []term
	for _, t := range terms {
		if digit := t.factor >> shift % digitBase; digit != 0 {
			level = append(level, term{t.name, digit})
		}
	}
	return level
}

// addUp derives the sum of one or more terms whose factors are small, in as many pieces as it needs.
func (f *facts) addUp(terms []term) (int, bool) {
	total := -1
	for len(terms) > 0 {
		d := api.Derivation{Div: 1}
		if total >= 0 {
			d.From, d.Mult = []int{total}, []int{1}
		}
		n := min(len(terms), api.MaxTerms-len(d.From))
		for _, t := range terms[:n] {
			d.From = append(d.From, t.name)
			d.Mult = append(d.Mult, t.factor)
		}
		terms = terms[n:]
		var ok bool
		if total, ok = f.derive(d); !ok {
			return 0, false
		}
	}
	return total, true
}

// needs returns the facts that the row of a fact rests on, itself among them.
func (f *facts) needs(fact int) map[int]bool {
	found := map[int]bool{}
	work := []int{fact}
	for len(work) > 0 {
		last := len(work) - 1
		x := work[last]
		work = work[:last]
		if x < 0 || found[x] {
			continue
		}
		found[x] = true
		work = append(work, f.made[x].From...)
	}
	return found
}

// A proof is a refuted node of the search: a leaf, or a split with two refuted children.
type proof struct {
	lines    []int        // the facts derived at the node, in order
	needs    map[int]bool // the facts that the leaves below rest on
	variable int          // -1 in a leaf
	at       int
	rows     [2]int // the facts of the split rows
	children [2]*proof
}

// refutation writes a proof with the facts that it needs.
func (f *facts) refutation(p *proof, given int) api.Refutation {
	w := writer{facts: f, needs: p.needs, place: make([]int, len(f.rows))}
	for i := range given {
		w.place[i] = i
	}
	w.write(p, given)
	return api.Refutation{Nodes: w.nodes}
}

// A writer numbers the facts: place has the number of a fact among the available rows of the nodes that have it.
type writer struct {
	facts *facts
	needs map[int]bool
	place []int
	nodes []api.Node
}

// write writes the node p, to which so many rows are available from its parent, and returns its number.
func (w *writer) write(p *proof, available int) int {
	number := len(w.nodes)
	node := api.Node{Var: p.variable, At: p.at}
	for _, line := range p.lines {
		if w.needs[line] {
			node.Lines = append(node.Lines, w.line(line))
			w.place[line] = available
			available++
		}
	}
	w.nodes = append(w.nodes, node)
	if p.variable < 0 {
		return number
	}
	var numbers [2]int
	for i, child := range p.children {
		w.place[p.rows[i]] = available
		numbers[i] = w.write(child, available+1)
	}
	w.nodes[number].Left = numbers[0]
	w.nodes[number].Right = numbers[1]
	return number
}

func (w *writer) line(fact int) api.Derivation {
	made := w.facts.made[fact]
	d := api.Derivation{From: slices.Clone(made.From), Mult: slices.Clone(made.Mult), Div: made.Div}
	for i, from := range d.From {
		if from >= 0 {
			d.From[i] = w.place[from]
		}
	}
	return d
}
