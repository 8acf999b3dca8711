package linear

import (
	"slices"
	"strings"
	"testing"

	"familycheck/api"
)

const (
	minInt = -1 << 63
	maxInt = 1<<63 - 1
)

func row(c int, coef ...int) api.Row { return api.Row{Coef: coef, Const: c} }

func system(vars int, rows ...api.Row) api.System { return api.System{Vars: vars, Rows: rows} }

// wide returns a row of that many zeros.
func wide(vars int) api.Row { return api.Row{Coef: make([]int, vars)} }

// repeat returns a system with one row many times.
func repeat(vars, times int, r api.Row) api.System {
	s := system(vars)
	for range times {
		s.Rows = append(s.Rows, r)
	}
	return s
}

// texts returns the system whose rows have these texts.
func texts(t *testing.T, vars int, lines string) api.System {
	t.Helper()
	s := system(vars)
	for line := range strings.Lines(strings.TrimSpace(lines)) {
		r, e := ParseRow(vars, strings.TrimSpace(line))
		if e != api.OK {
			t.Fatalf("%q: error %d", line, e)
		}
		s.Rows = append(s.Rows, r)
	}
	return s
}

func sameRow(a, b api.Row) bool {
	return slices.Equal(a.Coef, b.Coef) && a.Const == b.Const
}

func sameSystem(a, b api.System) bool {
	return a.Vars == b.Vars && slices.EqualFunc(a.Rows, b.Rows, sameRow)
}

func sameDerivation(a, b api.Derivation) bool {
	return slices.Equal(a.From, b.From) && slices.Equal(a.Mult, b.Mult) && a.Div == b.Div
}

func sameNode(a, b api.Node) bool {
	return slices.EqualFunc(a.Lines, b.Lines, sameDerivation) && a.Var == b.Var && a.At == b.At && a.Left == b.Left && a.Right == b.Right
}

func sameOutcome(a, b api.Outcome) bool {
	return a.Kind == b.Kind && slices.Equal(a.Point, b.Point) && slices.EqualFunc(a.Refutation.Nodes, b.Refutation.Nodes, sameNode)
}

func isZeroRow(r api.Row) bool { return len(r.Coef) == 0 && r.Const == 0 }

func isZeroSystem(s api.System) bool { return s.Vars == 0 && len(s.Rows) == 0 }

// numbers are a sequence that looks random and is the same in every run.
type numbers uint64

func (x *numbers) below(n int) int {
	*x = *x*6364136223846793005 + 1442695040888963407
	return int(uint64(*x) >> 33 % uint64(n))
}

func (x *numbers) between(low, high int) int { return low + x.below(high-low+1) }

func (x *numbers) row(vars, most int) api.Row {
	r := wide(vars)
	for v := range r.Coef {
		r.Coef[v] = x.between(-most, most)
	}
	r.Const = x.between(-most, most)
	return r
}

func (x *numbers) system(vars, rows, most int) api.System {
	s := system(vars)
	for range rows {
		s.Rows = append(s.Rows, x.row(vars, most))
	}
	return s
}

// boxed adds the row c - v >= 0 for each variable v, with a c from 0 to most.
func (x *numbers) boxed(s api.System, most int) api.System {
	for v := range s.Vars {
		s.Rows = append(s.Rows, axisRow(s.Vars, v, -1, x.between(0, most)))
	}
	return s
}

// points calls visit with all points from 0 to bound in ascending order, until it returns false. It is as plain as can be, because other code is held against it.
func points(vars, bound int, visit func(p []int) bool) {
	p := make([]int, vars)
	for visit(slices.Clone(p)) {
		v := vars - 1
		for v >= 0 && p[v] == bound {
			p[v] = 0
			v--
		}
		if v < 0 {
			return
		}
		p[v]++
	}
}

// holds evaluates a row in the plainest way.
func holds(r api.Row, p []int) bool {
	sum := r.Const
	for v := range p {
		sum += r.Coef[v] * p[v]
	}
	return sum >= 0
}

func holdAll(s api.System, p []int) bool {
	for _, r := range s.Rows {
		if !holds(r, p) {
			return false
		}
	}
	return true
}

// frozen returns a check that s and the memory behind its slices are as they were.
func frozen(t *testing.T, s api.System) func() {
	t.Helper()
	before := cloneRows(s.Rows)
	return func() {
		t.Helper()
		if !slices.EqualFunc(s.Rows, before, sameRow) {
			t.Errorf("an argument has changed from %v to %v", before, s.Rows)
		}
	}
}

// spoil overwrites all numbers of the rows.
func spoil(rows ...api.Row) {
	for i := range rows {
		for v := range rows[i].Coef {
			rows[i].Coef[v] = 987654321
		}
		rows[i].Const = 987654321
	}
}
