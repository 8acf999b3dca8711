package linear

import (
	"slices"

	"familycheck/api"
)

// CheckRefutation reports whether r shows that s has no solution. It shares with the solver only the arithmetic of one derivation.
func CheckRefutation(s api.System, r api.Refutation) bool {
	if Validate(s) != api.OK || !isTree(s.Vars, r.Nodes) {
		return false
	}
	available := make([][]api.Row, len(r.Nodes))
	available[0] = s.Rows
	for i, n := range r.Nodes {
		rows, ok := addLines(s.Vars, available[i], n.Lines)
		if !ok {
			return false
		}
		if n.Var < 0 {
			if !slices.ContainsFunc(rows, Contradictory) {
				return false
			}
			continue
		}
		available[n.Left] = withRow(rows, atMost(s.Vars, n.Var, n.At))
		available[n.Right] = withRow(rows, atLeast(s.Vars, n.Var, n.At+1))
	}
	return true
}

// isTree reports whether the nodes are within the limits and form a tree in which every node comes before its children.
func isTree(vars int, nodes []api.Node) bool {
	if len(nodes) < 1 || len(nodes) > api.MaxNodes {
		return false
	}
	parents := make([]int, len(nodes))
	lines := 0
	for i, n := range nodes {
		lines += len(n.Lines)
		if n.Var == -1 {
			continue
		}
		if n.Var < 0 || n.Var >= vars || !isCoordinate(n.At) {
			return false
		}
		for _, child := range [2]int{n.Left, n.Right} {
			if child <= i || child >= len(nodes) {
				return false
			}
			parents[child]++
		}
	}
	for _, p := range parents[1:] {
		if p != 1 {
			return false
		}
	}
	return lines <= api.MaxLines
}

// addLines returns the available rows and after them those that the lines derive, one after another.
func addLines(vars int, rows []api.Row, lines []api.Derivation) ([]api.Row, bool) {
	rows = slices.Clip(rows)
	for _, d := range lines {
		r, ok := derive(vars, rows, d)
		if !ok {
			return nil, false
		}
		rows = append(rows, r)
	}
	return rows, true
}

// withRow leaves the memory behind rows alone: two children extend the rows of the same parent.
func withRow(rows []api.Row, r api.Row) []api.Row {
	return append(slices.Clip(rows), r)
}

func atMost(vars, v, at int) api.Row {
	return axisRow(vars, v, -1, at)
}

func atLeast(vars, v, at int) api.Row {
	return axisRow(vars, v, 1, -at)
}

// derive returns the row that d derives from the available rows. All of these are small, so that no sum leaves the range of int.
func derive(vars int, rows []api.Row, d api.Derivation) (api.Row, bool) {
	if len(d.From) != len(d.Mult) || len(d.From) < 1 || len(d.From) > api.MaxTerms || d.Div < 1 || d.Div > api.MaxNumber {
		return api.Row{}, false
	}
	sum := api.Row{Coef: make([]int, vars)}
	for i, from := range d.From {
		if d.Mult[i] < 1 || d.Mult[i] > api.MaxMult || from >= len(rows) || -1-from >= vars {
			return api.Row{}, false
		}
		if from < 0 {
			sum.Coef[-1-from] += d.Mult[i]
			continue
		}
		for v, c := range rows[from].Coef {
			sum.Coef[v] += d.Mult[i] * c
		}
		sum.Const += d.Mult[i] * rows[from].Const
	}
	return divide(sum, d.Div)
}

// divide divides r by div, and rounds only the constant; false if a coefficient is not divisible or the result is not small.
func divide(r api.Row, div int) (api.Row, bool) {
	for v, c := range r.Coef {
		if c%div != 0 {
			return api.Row{}, false
		}
		r.Coef[v] = c / div
	}
	r.Const = floorDiv(r.Const, div)
	return r, small(r)
}
