package linear

import (
	"math/big"
	"testing"

	"familycheck/api"
)

func leaf(l ...api.Derivation) api.Node { return api.Node{Lines: l, Var: -1} }

func split(v, at, left, right int, l ...api.Derivation) api.Node {
	return api.Node{Lines: l, Var: v, At: at, Left: left, Right: right}
}

// line returns a derivation of pairs of a number of a row and a multiplier.
func line(div int, pairs ...int) api.Derivation {
	d := api.Derivation{Div: div}
	for i := 0; i < len(pairs); i += 2 {
		d.From = append(d.From, pairs[i])
		d.Mult = append(d.Mult, pairs[i+1])
	}
	return d
}

func tree(nodes ...api.Node) api.Refutation { return api.Refutation{Nodes: nodes} }

// chapterExample is example 2 of the chapter.
func chapterExample() api.System { return system(2, row(-1, 2, -2), row(1, -2, 2)) }

// P1.10: derivations.
func TestDerivations(t *testing.T) {
	const m, k = api.MaxNumber, api.MaxMult
	s := chapterExample()
	no := system(1, row(-1, 0)) // contradictory by itself: only the form counts
	terms := func(n, mult int) api.Derivation {
		d := api.Derivation{Div: 1}
		for range n {
			d.From = append(d.From, 0)
			d.Mult = append(d.Mult, mult)
		}
		return d
	}
	for i, x := range []struct {
		s    api.System
		r    api.Refutation
		want bool
	}{
		{s, tree(leaf(line(2, 0, 1), line(1, 2, 2, 1, 1))), true},
		{s, tree(leaf(line(2, 0, 1), line(1, 1, 1, 2, 2))), true},
		{s, tree(leaf(line(2, 0, 1), line(2, 1, 1), line(1, 2, 1, 3, 1))), true},
		{s, tree(leaf(line(2, 0, 1))), false},                             // no contradiction
		{s, tree(leaf(line(1, 0, 1), line(1, 2, 1, 1, 1))), false},        // 0 >= 0
		{s, tree(leaf(line(3, 0, 1), line(1, 2, 2, 1, 1))), false},        // not divisible
		{s, tree(leaf(line(4, 0, 2), line(1, 2, 2, 1, 1))), true},         // divisible
		{s, tree(leaf(line(4, 0, 1), line(1, 2, 2, 1, 1))), false},        // not divisible
		{s, tree(leaf(line(0, 0, 1), line(1, 2, 2, 1, 1))), false},        // Div 0
		{s, tree(leaf(line(-2, 0, 1), line(1, 2, 2, 1, 1))), false},       // Div -2
		{s, tree(leaf(line(2, 0, 1), line(1, 3, 2, 1, 1))), false},        // no such row
		{s, tree(leaf(line(2, 2, 1), line(1, 2, 2, 1, 1))), false},        // its own row
		{s, tree(leaf(line(2, 0, 1), line(1, -3, 2, 1, 1))), false},       // no such variable
		{s, tree(leaf(line(2, 0, 1), line(1, 2, 2, 1, 1, -2, 1))), false}, // x1 - 1
		{s, tree(leaf(line(2, 0, 1), line(1, 2, 0, 1, 1))), false},        // Mult 0
		{s, tree(leaf(line(2, 0, 1), line(1, 2, -1, 1, 1))), false},       // Mult -1
		{s, tree(leaf(line(2, 0, 1), api.Derivation{Div: 1})), false},     // no term
		{no, tree(leaf()), true},                                          //
		{no, tree(leaf(line(1, 0, 1))), true},                             //
		{no, tree(leaf(line(1, -1, 1))), true},                            // x0 >= 0
		{no, tree(leaf(line(1, -2, 1))), false},                           // there is no x1
		{no, tree(leaf(line(1, minInt, 1))), false},                       //
		{no, tree(leaf(line(1, maxInt, 1))), false},                       //
		{no, tree(leaf(line(1, 0, k))), true},                             //
		{no, tree(leaf(line(1, 0, k+1))), false},                          //
		{no, tree(leaf(line(1, 0, minInt))), false},                       //
		{no, tree(leaf(line(m, 0, 1))), true},                             //
		{no, tree(leaf(line(m+1, 0, 1))), false},                          //
		{no, tree(leaf(line(maxInt, 0, 1))), false},                       //
		{no, tree(leaf(terms(64, 1))), true},                              //
		{no, tree(leaf(terms(65, 1))), false},                             //
		{no, tree(leaf(api.Derivation{From: []int{0, 0}, Mult: []int{1}, Div: 1})), false},
		{no, tree(leaf(api.Derivation{From: []int{0}, Mult: []int{1, 1}, Div: 1})), false},
		{no, tree(leaf(line(1, 0, k), line(1, 1, k), line(1, 2, 16))), true},                // -2^36
		{no, tree(leaf(line(1, 0, k), line(1, 1, k), line(1, 2, 16, 0, 1))), false},         // -2^36 - 1
		{no, tree(leaf(line(1, -1, k), line(1, 1, k), line(1, 2, 16))), true},               // 2^36*x0
		{no, tree(leaf(line(1, -1, k), line(1, 1, k), line(1, 2, 16, -1, 1))), false},       // one more
		{no, tree(leaf(line(1, -1, k), line(1, 1, k), line(2, 2, 17, 2, 15))), true},        // only the result is small
		{system(1, row(-m, m)), tree(leaf(terms(64, k))), false},                            //
		{system(1, row(-m, -m)), tree(leaf(line(m, 0, k))), true},                           //
		{system(1, row(-3, -2)), tree(leaf(line(2, 0, 1))), true},                           // rounded down
		{system(1, row(1, 2), row(-2, -2)), tree(leaf(line(2, 0, 1, 1, 1))), true},          // -1/2 is -1
		{system(1, row(1, 2), row(0, -2)), tree(leaf(line(2, 0, 1), line(1, 2, 1))), false}, // 1/2 is 0
	} {
		check := frozen(t, x.s)
		if got := CheckRefutation(x.s, x.r); got != x.want {
			t.Errorf("%d: %v", i, got)
		}
		check()
	}
}

// P1.10: nodes.
func TestNodes(t *testing.T) {
	half := system(2, row(-1, 2, 0), row(1, -2, 0)) // 2*x0 = 1
	low := leaf(line(1, 0, 1, 2, 2))
	high := leaf(line(1, 1, 1, 2, 2))
	no := system(1, row(-1, 0))
	for i, x := range []struct {
		s    api.System
		r    api.Refutation
		want bool
	}{
		{half, tree(), false},
		{half, tree(split(0, 0, 1, 2), low, high), true},
		{half, tree(split(0, 0, 2, 1), high, low), true},
		{half, tree(split(0, 0, 1, 2), high, low), false},
		{half, tree(split(0, 0, 1, 1), low, high), false},
		{half, tree(split(0, 0, 1, 2), low, high, leaf()), false},
		{half, tree(split(0, 0, 1, 2), low), false},
		{half, tree(split(0, 0, 1, 3), low, high), false},
		{half, tree(split(0, 0, 0, 2), low, high), false},
		{half, tree(split(0, 0, -1, 2), low, high), false},
		{half, tree(split(0, 1, 1, 2), low, high), false},
		{half, tree(split(0, -1, 1, 2), low, high), false},
		{half, tree(split(1, 0, 1, 2), low, high), false},
		{half, tree(split(2, 0, 1, 2), low, high), false},
		{half, tree(split(-2, 0, 1, 2), low, high), false},
		{half, tree(split(minInt, 0, 1, 2), low, high), false},
		{half, tree(api.Node{Var: -1, At: -5, Left: 9, Right: -9, Lines: []api.Derivation{line(2, 0, 1), line(1, 1, 1, 2, 2)}}), true}, // nothing else of a leaf counts
		// The children have the lines of the split; a split needs no contradiction, and it may have one.
		{half, tree(split(0, 0, 1, 2, line(2, 0, 1)), leaf(line(1, 2, 1, 3, 1)), leaf(line(1, 1, 1, 3, 2))), true},
		{half, tree(split(0, 0, 1, 2, line(3, 0, 1)), low, high), false},
		{half, tree(split(0, 0, 1, 2, line(2, 0, 1), line(1, 1, 1, 2, 2)), leaf(), leaf()), true},
		// What a child derives is not there for the other one.
		{half, tree(split(0, 0, 1, 2), leaf(line(1, 0, 1, 2, 2), line(1, 3, 1)), leaf(line(1, 3, 1))), false},
		{no, tree(split(0, 5, 1, 2), leaf(), leaf()), true},
		{no, tree(split(0, api.MaxPoint, 1, 2), leaf(), leaf()), true},
		{no, tree(split(0, api.MaxPoint+1, 1, 2), leaf(), leaf()), false},
		{no, tree(split(0, maxInt, 1, 2), leaf(), leaf()), false},
		{no, tree(split(0, 5, 1, 4), split(0, 2, 2, 3), leaf(), leaf(), leaf()), true},
		{no, tree(split(0, 5, 1, 2), split(0, 2, 2, 3), leaf(), leaf(), leaf()), false}, // 2 twice, 4 never
		{no, tree(split(0, 5, 3, 4), split(0, 2, 2, 1), leaf(), leaf(), leaf()), false}, // a ring beside the tree
		{system(0, row(-1)), tree(leaf()), true},
		{system(0, row(0)), tree(leaf()), false},
		{system(0, row(-1)), tree(split(0, 0, 1, 2), leaf(), leaf()), false},
		{system(0), tree(leaf()), false},
		// The split rows are available: 0 >= x0 - at contradicts nothing, but x0 >= 1 and 0 >= x0 do.
		{system(1), tree(split(0, 0, 1, 2), leaf(), leaf()), false},
		{system(1), tree(split(0, 0, 1, 4), split(0, 0, 2, 3), leaf(), leaf(line(1, 0, 1, 1, 1)), leaf()), false},
		{system(1, row(-1, 1)), tree(split(0, 0, 1, 2), leaf(line(1, 0, 1, 1, 1)), leaf()), false},
		{system(1, row(-1, 1), row(1, -1)), tree(split(0, 0, 1, 2), leaf(line(1, 0, 1, 2, 1)), leaf(line(1, 1, 1, 2, 1))), false},
		{system(1, row(-1, 1), row(0, -1)), tree(split(0, 0, 1, 2), leaf(line(1, 0, 1, 2, 1)), leaf(line(1, 1, 1, 2, 1))), true},
	} {
		if got := CheckRefutation(x.s, x.r); got != x.want {
			t.Errorf("%d: %v", i, got)
		}
	}
}

// R5: derived rows are not written behind the rows of the system.
func TestCheckWritesNothing(t *testing.T) {
	rows := append(make([]api.Row, 0, 9), chapterExample().Rows...)
	if !CheckRefutation(api.System{Vars: 2, Rows: rows}, tree(leaf(line(2, 0, 1), line(1, 2, 2, 1, 1)))) {
		t.Error("a correct refutation")
	}
	for _, r := range rows[2:9] {
		if !isZeroRow(r) {
			t.Error("the memory of the system has", r)
		}
	}
}

// comb returns a refutation of that many nodes: each split has a leaf and the next split.
func comb(nodes int) api.Refutation {
	var r api.Refutation
	for i := 0; i+2 < nodes; i += 2 {
		r.Nodes = append(r.Nodes, split(0, 0, i+1, i+2), leaf())
	}
	r.Nodes = append(r.Nodes, leaf())
	return r
}

// P1.10: the limits of a refutation.
func TestRefutationLimits(t *testing.T) {
	no := system(1, row(-1, 0))
	for nodes, want := range map[int]bool{1: true, 3: true, 399: true, 401: false, 999: false} {
		r := comb(nodes)
		if len(r.Nodes) != nodes || CheckRefutation(no, r) != want {
			t.Errorf("%d nodes: %v", nodes, !want)
		}
	}
	even := comb(399)
	even.Nodes = append(even.Nodes, leaf())
	if CheckRefutation(no, even) {
		t.Error("400 nodes, the last of which is no child")
	}
	lines := func(n int) []api.Derivation {
		var l []api.Derivation
		for range n {
			l = append(l, line(1, 0, 1))
		}
		return l
	}
	for i, x := range []struct {
		r    api.Refutation
		want bool
	}{
		{tree(leaf(lines(400)...)), true},
		{tree(leaf(lines(401)...)), false},
		{tree(split(0, 0, 1, 2, lines(100)...), leaf(lines(200)...), leaf(lines(100)...)), true},
		{tree(split(0, 0, 1, 2, lines(100)...), leaf(lines(200)...), leaf(lines(101)...)), false},
	} {
		if CheckRefutation(no, x.r) != x.want {
			t.Errorf("%d: %v", i, !x.want)
		}
	}
}

// plainCheck says of a refutation what P1.10 says, sentence by sentence, with numbers that have no bounds.
func plainCheck(s api.System, r api.Refutation) bool {
	lines, parents := 0, make([]int, len(r.Nodes))
	for i, n := range r.Nodes {
		lines += len(n.Lines)
		if n.Var < -1 || n.Var >= s.Vars {
			return false
		}
		if n.Var >= 0 {
			if n.At < 0 || n.At > api.MaxPoint || n.Left <= i || n.Right <= i || n.Left >= len(r.Nodes) || n.Right >= len(r.Nodes) {
				return false
			}
			parents[n.Left]++
			parents[n.Right]++
		}
	}
	if len(r.Nodes) < 1 || len(r.Nodes) > api.MaxNodes || lines > api.MaxLines {
		return false
	}
	for _, p := range parents[1:] {
		if p != 1 {
			return false
		}
	}
	return plainNode(s, r, 0, cloneRows(s.Rows))
}

func plainNode(s api.System, r api.Refutation, number int, rows []api.Row) bool {
	n := r.Nodes[number]
	for _, d := range n.Lines {
		next, ok := plainLine(s.Vars, rows, d)
		if !ok {
			return false
		}
		rows = append(rows, next)
	}
	if n.Var == -1 {
		for _, x := range rows {
			if Contradictory(x) {
				return true
			}
		}
		return false
	}
	below, above := wide(s.Vars), wide(s.Vars)
	below.Coef[n.Var], below.Const = -1, n.At
	above.Coef[n.Var], above.Const = 1, -n.At-1
	return plainNode(s, r, n.Left, append(cloneRows(rows), below)) && plainNode(s, r, n.Right, append(cloneRows(rows), above))
}

func plainLine(vars int, rows []api.Row, d api.Derivation) (api.Row, bool) {
	if len(d.From) != len(d.Mult) || len(d.From) == 0 || len(d.From) > api.MaxTerms || d.Div < 1 || d.Div > api.MaxNumber {
		return api.Row{}, false
	}
	sums := make([]*big.Int, vars+1)
	for i := range sums {
		sums[i] = new(big.Int)
	}
	for i, from := range d.From {
		if d.Mult[i] < 1 || d.Mult[i] > api.MaxMult || from >= len(rows) || from < -vars {
			return api.Row{}, false
		}
		source := wide(vars)
		if from < 0 {
			source.Coef[-1-from] = 1
		} else {
			source = rows[from]
		}
		for v, c := range append(cloneRow(source).Coef, source.Const) {
			sums[v].Add(sums[v], new(big.Int).Mul(big.NewInt(int64(c)), big.NewInt(int64(d.Mult[i]))))
		}
	}
	next := wide(vars)
	limit := big.NewInt(api.MaxNumber)
	for v, sum := range sums {
		quotient, rest := new(big.Int).DivMod(sum, big.NewInt(int64(d.Div)), new(big.Int))
		if quotient.CmpAbs(limit) > 0 || v < vars && rest.Sign() != 0 {
			return api.Row{}, false
		}
		if v < vars {
			next.Coef[v] = int(quotient.Int64())
		} else {
			next.Const = int(quotient.Int64())
		}
	}
	return next, true
}

// change changes one number of a refutation.
func (x *numbers) change(r *api.Refutation) {
	n := &r.Nodes[x.below(len(r.Nodes))]
	values := []int{-3, -2, -1, 0, 1, 2, 3, 4, 5, 6, 7, 8, 9, 20, minInt, maxInt}
	value := values[x.below(len(values))]
	if len(n.Lines) == 0 || x.below(3) == 0 {
		*[]*int{&n.Var, &n.At, &n.Left, &n.Right}[x.below(4)] = value
		return
	}
	d := &n.Lines[x.below(len(n.Lines))]
	k := x.below(len(d.From))
	switch x.below(5) {
	case 0:
		d.Div = value
	case 1, 2:
		d.From[k] = value
	case 3:
		d.Mult[k] = value
	case 4:
		d.From, d.Mult = append(d.From, value), append(d.Mult, x.between(1, 3))
	}
}

func cloneRefutation(r api.Refutation) api.Refutation {
	var c api.Refutation
	for _, n := range r.Nodes {
		m := split(n.Var, n.At, n.Left, n.Right)
		for _, d := range n.Lines {
			m.Lines = append(m.Lines, api.Derivation{From: append([]int(nil), d.From...), Mult: append([]int(nil), d.Mult...), Div: d.Div})
		}
		c.Nodes = append(c.Nodes, m)
	}
	return c
}

// P1.10, P1.11: refutations with changed numbers are accepted if and only if they are correct, and never for a system with a solution.
func TestChangedRefutations(t *testing.T) {
	var x numbers = 10
	verdicts := map[bool]int{}
	for range 400 {
		s := x.boxed(x.system(2, 3, 5), 3)
		o := attempt(s, 300, x.below(2)*5)
		if o.Kind != api.Infeasible {
			continue
		}
		satisfied := x.boxed(x.system(2, 3, 5), 3)
		for range 60 {
			r := cloneRefutation(o.Refutation)
			for range x.between(0, 2) {
				x.change(&r)
			}
			got := CheckRefutation(s, r)
			if got != plainCheck(s, r) {
				t.Fatalf("%v for %v, %v", got, s, r)
			}
			verdicts[got]++
			if _, ok, _ := Least(satisfied, 3); ok && CheckRefutation(satisfied, r) {
				t.Fatalf("%v has a solution, %v", satisfied, r)
			}
		}
	}
	if verdicts[true] < 1000 || verdicts[false] < 1000 {
		t.Error("too few cases of one kind:", verdicts)
	}
}
