package linear

import (
	"testing"

	"familycheck/api"
)

// evidence reports what is wrong with an outcome of Solve(s, nodes): see P1.12.
func evidence(s api.System, nodes int, o api.Outcome) string {
	switch {
	case nodes <= 0 && o.Kind != api.Unknown:
		return "an answer without nodes"
	case o.Kind != api.Feasible && o.Point != nil:
		return "a point"
	case o.Kind != api.Infeasible && len(o.Refutation.Nodes) > 0:
		return "a refutation"
	case o.Kind == api.Feasible && (!Satisfies(s, o.Point) || !holdAll(s, o.Point)):
		return "a point that is no solution"
	case o.Kind == api.Infeasible && (!CheckRefutation(s, o.Refutation) || !plainCheck(s, o.Refutation)):
		return "a wrong refutation"
	case o.Kind == api.Infeasible && len(o.Refutation.Nodes) > nodes:
		return "too many nodes"
	case o.Kind < api.Unknown || o.Kind > api.Infeasible:
		return "no kind"
	}
	return ""
}

func countLines(r api.Refutation) int {
	lines := 0
	for _, n := range r.Nodes {
		lines += len(n.Lines)
	}
	return lines
}

// P1.12
func TestSolve(t *testing.T) {
	const m = api.MaxNumber
	for i, x := range []struct {
		s    api.System
		want int
	}{
		{system(0), api.Feasible},
		{system(0, row(0), row(7)), api.Feasible},
		{system(0, row(0), row(-1)), api.Infeasible},
		{system(96), api.Feasible},
		{system(1, row(-1, 2), row(1, -2), row(3, -1)), api.Infeasible},
		{system(2, row(-3, 1, 1), row(2, -1, 0), row(2, 0, -1)), api.Feasible},
		{system(2, row(-5, 1, 1), row(2, -1, 0), row(2, 0, -1)), api.Infeasible},
		{system(3, row(-7, 3, 5, 0), row(7, -3, -5, 0), row(2, -1, 0, 0), row(3, 0, -1, 0), row(0, 0, 0, -1)), api.Infeasible},
		{system(3, row(-8, 3, 5, 0), row(8, -3, -5, 0), row(2, -1, 0, 0), row(3, 0, -1, 0), row(0, 0, 0, -1)), api.Feasible},
		{system(1, row(-1, 0), row(0, 1)), api.Infeasible},
		{system(1, row(-1, -m)), api.Infeasible},
		{system(1, row(-m, m)), api.Feasible},
		{repeat(3, 192, row(-1, 1, -1, 0)), api.Feasible},
		{chapterExample(), api.Infeasible},
		{system(1, row(-api.MaxPoint, 1)), api.Feasible},
		// 6*x0 - 10*x1 + 15*x2 is 1, and 2*x0 is 2*x1 + 1.
		{system(3, row(-1, 6, -10, 15), row(1, -6, 10, -15)), api.Feasible},
		{system(2, row(-1, 2, -2), row(1, -2, 2), row(0, 0, 1)), api.Infeasible},
		// x0 + x1 and x0 - x1 are not both even and odd.
		{system(4, row(0, 1, 1, -2, 0), row(0, -1, -1, 2, 0), row(-1, 1, -1, 0, -2), row(1, -1, 1, 0, 2)), api.Infeasible},
	} {
		check := frozen(t, x.s)
		o, e := Solve(x.s, 300)
		if bad := evidence(x.s, 300, o); e != api.OK || o.Kind != x.want || bad != "" {
			t.Errorf("%d: %v, error %d: %s", i, o, e, bad)
		}
		check()
	}
}

// P1.12: without nodes there is no answer.
func TestSolveWithoutNodes(t *testing.T) {
	for _, s := range []api.System{system(0), system(0, row(-1)), system(1), chapterExample()} {
		for _, nodes := range []int{0, -1, -300, minInt} {
			if o, e := Solve(s, nodes); e != api.OK || !sameOutcome(o, api.Outcome{}) {
				t.Errorf("%v, %d nodes: %v, error %d", s, nodes, o, e)
			}
		}
	}
}

// P1.12: a coordinate above MaxPoint makes no point.
func TestSolveBeyondPoints(t *testing.T) {
	for _, s := range []api.System{
		system(1, row(-api.MaxPoint-1, 1)),
		system(1, row(-api.MaxNumber, 1)),
		system(2, row(-3*api.MaxPoint, 1, 1)),
		system(2, row(-1, 2, -3), row(1, -2, 3), row(-2*api.MaxPoint, 1, 0)),
	} {
		o, e := Solve(s, 400)
		if bad := evidence(s, 400, o); e != api.OK || o.Kind != api.Unknown || bad != "" {
			t.Errorf("%v: %v, error %d: %s", s, o, e, bad)
		}
	}
}

// P1.12: the evidence is right, and what is answered agrees with a plain search.
func TestSolveRandom(t *testing.T) {
	var x numbers = 12
	kinds := map[int]int{}
	for i := range 3000 {
		most := []int{1, 3, 20, 1000, api.MaxNumber}[x.below(5)]
		s := x.system(x.between(0, 6), x.between(0, 8), most)
		if i%3 == 0 {
			s = x.boxed(s, 9)
		}
		nodes := x.between(-1, 500)
		o, e := Solve(s, nodes)
		if bad := evidence(s, nodes, o); e != api.OK || bad != "" {
			t.Fatalf("%v: %v, error %d: %s", s, o, e, bad)
		}
		kinds[o.Kind]++
		if _, ok, e := Least(s, 4); e == api.OK && ok && o.Kind == api.Infeasible {
			t.Fatalf("%v has a solution: %v", s, o)
		}
	}
	if kinds[api.Feasible] < 500 || kinds[api.Infeasible] < 500 {
		t.Error("too few cases of one kind:", kinds)
	}
}

// decidable returns a system of the exception in P1.12: few variables, small numbers, small bounds.
func decidable(x *numbers) api.System {
	most := []int{1, 2, 5, 20}[x.below(4)]
	s := x.system(x.between(0, 3), x.between(0, 4), most)
	for range x.below(3) { // equations are harder
		r := x.row(s.Vars, most)
		opposite, _ := Combine(wide(s.Vars), 0, wide(s.Vars), 0)
		for v, c := range r.Coef {
			opposite.Coef[v] = -c
		}
		opposite.Const = -r.Const
		s.Rows = append(s.Rows, r, opposite)
	}
	if x.below(40) == 0 {
		for len(s.Rows) < 189 {
			r := x.row(s.Vars, 20)
			r.Const = x.between(-1, 20)
			s.Rows = append(s.Rows, r)
		}
	}
	return x.boxed(s, 3)
}

// P1.12: a system of the exception is decided.
func TestSolveDecides(t *testing.T) {
	var x numbers = 112
	kinds := map[int]int{}
	for range 20000 {
		s := decidable(&x)
		nodes := []int{300, 301, 400, 100000, maxInt}[x.below(5)]
		o, e := Solve(s, nodes)
		_, ok, _ := Least(s, 3)
		if bad := evidence(s, nodes, o); e != api.OK || bad != "" || ok != (o.Kind == api.Feasible) || ok == (o.Kind == api.Infeasible) {
			t.Fatalf("%v: %v, error %d: %s", s, o, e, bad)
		}
		kinds[o.Kind]++
	}
	if kinds[api.Feasible] < 3000 || kinds[api.Infeasible] < 3000 {
		t.Error("too few cases of one kind:", kinds)
	}
}

// Solve can promise the exception because splits alone decide such a system, with at most 127 nodes. So the last of its searches is held to that, and to the limits of refutations.
func TestSplitsDecide(t *testing.T) {
	var x numbers = 212
	nodes, lines, splits := 0, 0, 0
	for range 20000 {
		s := decidable(&x)
		o := attempt(s, 127, 0)
		_, ok, _ := Least(s, 3)
		if bad := evidence(s, 127, o); bad != "" || ok != (o.Kind == api.Feasible) || ok == (o.Kind == api.Infeasible) {
			t.Fatalf("%v: %v: %s", s, o, bad)
		}
		nodes = max(nodes, len(o.Refutation.Nodes))
		lines = max(lines, countLines(o.Refutation))
		if len(o.Refutation.Nodes) > 1 {
			splits++
		}
	}
	if nodes < 9 || splits < 200 {
		t.Error("too few splits:", nodes, lines, splits)
	}
}

// A search keeps to its number of nodes.
func TestSplitsKeepToNodes(t *testing.T) {
	var x numbers = 312
	tried := map[int]int{}
	for range 3000 {
		s := decidable(&x)
		nodes := x.between(-2, 12)
		o := attempt(s, nodes, 0)
		if bad := evidence(s, nodes, o); bad != "" {
			t.Fatalf("%v, %d nodes: %v: %s", s, nodes, o, bad)
		}
		if nodes > 0 {
			tried[o.Kind]++
		}
	}
	if tried[api.Unknown] == 0 || tried[api.Infeasible] == 0 {
		t.Error("too few cases of one kind:", tried)
	}
}

// Systems of runs of threshold families: n, t and f are x0, x1 and x2.
const (
	unforgeability = `
		x0 - 1 >= 0
		x0 - x1 >= 0
		x0 - x2 >= 0
		x0 - 3*x1 - 1 >= 0
		x1 - x2 >= 0
		-x0 + x2 + x3 >= 0
		x0 - x2 - x3 >= 0
		x3 >= 0
		-x4 >= 0
		x4 >= 0
		0 >= 0
		-x1 + x2 + x4 - 1 >= 0
		x3 - x6 >= 0
		-x4 - x5 >= 0
		x4 + x5 + x6 >= 0
		0 >= 0
		-x0 + x1 + x2 + x4 + x5 + x6 >= 0
		x3 - x6 - x8 >= 0
		-x4 - x5 - x7 >= 0
		x4 + x5 + x6 + x7 + x8 - x9 >= 0
		x9 >= 0
		x9 - 1 >= 0`
	agreement = `
		x0 - 1 >= 0
		x0 - x1 >= 0
		x0 - x2 >= 0
		x0 - 3*x1 - 1 >= 0
		x1 - x2 >= 0
		-x0 + x2 + x3 + x4 >= 0
		x0 - x2 - x3 - x4 >= 0
		x3 - x5 >= 0
		x4 - x6 >= 0
		x5 >= 0
		x6 >= 0
		-x0 - x1 + 2*x2 + 2*x5 - 1 >= 0
		x3 - x5 - x7 >= 0
		x4 - x6 - x8 >= 0
		x5 + x7 - x9 >= 0
		x6 + x8 - x10 >= 0
		x9 + x10 >= 0
		-x0 - x1 + 2*x2 + 2*x6 + 2*x8 - 1 >= 0
		x3 - x5 - x7 - x11 >= 0
		x4 - x6 - x8 - x12 >= 0
		x5 + x7 - x9 + x11 - x13 - x15 >= 0
		x6 + x8 - x10 + x12 - x14 - x16 >= 0
		x9 + x10 + x13 + x14 >= 0
		x15 + x16 >= 0
		x9 + x10 + x13 + x14 - 1 >= 0
		x15 + x16 - 1 >= 0`
)

// The verifier rests on this: such systems need one node.
func TestSolveThresholds(t *testing.T) {
	good := texts(t, 10, unforgeability)
	bad := texts(t, 10, unforgeability)
	bad.Rows[4].Const = 1 // t - f + 1 is a weaker condition
	quorums := texts(t, 17, agreement)
	small := texts(t, 17, agreement)
	small.Rows[11].Coef[1], small.Rows[17].Coef[1] = 0, 0 // quorums that need not meet
	for i, x := range []struct {
		s    api.System
		want int
	}{{good, api.Infeasible}, {bad, api.Feasible}, {quorums, api.Infeasible}, {small, api.Feasible}} {
		for _, nodes := range []int{1, 100, 400} {
			o, e := Solve(x.s, nodes)
			if wrong := evidence(x.s, nodes, o); e != api.OK || o.Kind != x.want || wrong != "" {
				t.Errorf("%d: %v, error %d: %s", i, o, e, wrong)
			}
		}
	}
}

// Multipliers above MaxMult and sums of more than MaxTerms rows take several derivations.
func TestSolveLongSums(t *testing.T) {
	digits := system(2, row(-1, 100003, -99991), row(-1, -100019, 99990))
	chain := system(96, api.Row{Coef: make([]int, 96), Const: 95})
	for v := range 96 {
		chain.Rows[0].Coef[v] = -1
		chain.Rows = append(chain.Rows, axisRow(96, v, 1, -1))
	}
	for i, s := range []api.System{digits, chain} {
		o, e := Solve(s, 1)
		if bad := evidence(s, 1, o); e != api.OK || o.Kind != api.Infeasible || bad != "" || countLines(o.Refutation) != 2 {
			t.Errorf("%d: %v, error %d: %s", i, o, e, bad)
		}
	}
}

// P1.12, R8: whatever the numbers are, nothing overflows unseen, and Solve comes to an end.
func TestSolveLarge(t *testing.T) {
	var x numbers = 412
	for _, size := range []struct{ vars, rows, most, percent int }{
		{96, 192, 3, 100}, {96, 192, 1, 8}, {96, 192, 100, 3}, {96, 192, api.MaxNumber, 100}, {96, 192, api.MaxNumber, 2}, {40, 60, 5, 12}, {12, 30, api.MaxNumber, 40}, {12, 30, 50, 60},
	} {
		for range 4 {
			s := x.system(size.vars, size.rows, size.most)
			for i := range s.Rows {
				for v := range s.Rows[i].Coef {
					if x.below(100) >= size.percent {
						s.Rows[i].Coef[v] = 0
					}
				}
			}
			o, e := Solve(s, 400)
			if bad := evidence(s, 400, o); e != api.OK || bad != "" {
				t.Errorf("%v: %v, error %d: %s", size, o, e, bad)
			}
		}
	}
}

// R5, R11
func TestSolveAgain(t *testing.T) {
	var x numbers = 512
	for range 300 {
		s := x.boxed(x.system(4, 5, 9), 12)
		check := frozen(t, s)
		first, _ := Solve(s, 200)
		second, _ := Solve(s, 200)
		if !sameOutcome(first, second) {
			t.Fatalf("%v: %v and then %v", s, first, second)
		}
		for _, n := range second.Refutation.Nodes {
			for _, d := range n.Lines {
				d.From[0], d.Mult[0] = 77, 77
			}
		}
		if len(second.Point) > 0 {
			second.Point[0] = 77
		}
		check()
		if third, _ := Solve(s, 200); !sameOutcome(first, third) {
			t.Fatalf("%v: a result has been kept", s)
		}
	}
}

// P1.13
func TestEntails(t *testing.T) {
	const m = api.MaxNumber
	s := system(1, row(-2, 1), row(3, -1)) // 2 or 3
	full := repeat(1, 192, row(0, 1))
	for i, x := range []struct {
		s     api.System
		r     api.Row
		nodes int
		kind  int
		e     api.Errno
	}{
		{s, row(-1, 1), 300, api.Infeasible, api.OK},
		{s, row(-2, 1), 300, api.Infeasible, api.OK},
		{s, row(-3, 1), 300, api.Feasible, api.OK},
		{s, row(-5, 2), 300, api.Feasible, api.OK},
		{s, row(-4, 2), 300, api.Infeasible, api.OK},
		{s, row(0, 0), 300, api.Infeasible, api.OK},
		{s, row(-1, 0), 300, api.Feasible, api.OK},
		{s, row(-1, 1), 0, api.Unknown, api.OK},
		{s, row(-1, 1), -5, api.Unknown, api.OK},
		{system(0), row(0), 300, api.Infeasible, api.OK},
		{system(0), row(-1), 300, api.Feasible, api.OK},
		{system(0, row(-1)), row(-1), 300, api.Infeasible, api.OK},
		{s, row(0), 300, 0, api.ErrArg},
		{s, row(0, 1, 2), 300, 0, api.ErrArg},
		{s, row(maxInt), 300, 0, api.ErrArg},
		{full, row(maxInt), 300, 0, api.ErrArg},
		{s, row(m, 1), 300, 0, api.ErrLarge},
		{s, row(m-1, 1), 300, api.Infeasible, api.OK},
		{s, row(-m, 1), 300, api.Feasible, api.OK},
		{s, row(0, m+1), 300, 0, api.ErrLarge},
		{full, row(0, 1), 300, 0, api.ErrLarge},
		{repeat(1, 191, row(0, 1)), row(0, 1), 300, api.Infeasible, api.OK},
	} {
		if k, e := Entails(x.s, x.r, x.nodes); k != x.kind || e != x.e {
			t.Errorf("%d: %d, error %d", i, k, e)
		}
	}
}

// P1.13: it is the kind of Solve, and agrees with a plain search.
func TestEntailsRandom(t *testing.T) {
	var x numbers = 13
	kinds := map[int]int{}
	for range 1500 {
		s := x.boxed(x.system(2, x.between(0, 2), 6), 3)
		r := x.row(2, 6)
		k, e := Entails(s, r, 300)
		negated, _ := Negate(r)
		longer, _ := Append(s, negated)
		o, _ := Solve(longer, 300)
		if e != api.OK || k != o.Kind {
			t.Fatalf("%v, %v: %d, error %d; Solve: %d", s, r, k, e, o.Kind)
		}
		all := true
		points(2, 3, func(p []int) bool {
			all = all && (!holdAll(s, p) || holds(r, p))
			return all
		})
		if all != (k == api.Infeasible) {
			t.Fatalf("%v, %v: %d", s, r, k)
		}
		kinds[k]++
	}
	if kinds[api.Feasible] < 300 || kinds[api.Infeasible] < 300 {
		t.Error("too few cases of one kind:", kinds)
	}
}
