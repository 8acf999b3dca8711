package linear

import "familycheck/api"

// mostPoints is the number of points that Least may have to look at.
const mostPoints = 100000

// Least returns the first solution of s, in ascending order, that has no coordinate above bound.
func Least(s api.System, bound int) ([]int, bool, api.Errno) {
	if e := Validate(s); e != api.OK {
		return nil, false, e
	}
	if !isCoordinate(bound) {
		return nil, false, api.ErrArg
	}
	points := 1
	for range s.Vars {
		points *= bound + 1
		if points > mostPoints {
			return nil, false, api.ErrLarge
		}
	}
	point, ok := firstPoint(s, bound)
	return point, ok, api.OK
}

// firstPoint fixes the coordinates from the first one on, and gives a choice up when a row fails whatever the later coordinates are.
func firstPoint(s api.System, bound int) ([]int, bool) {
	gains := possibleGains(s, bound)
	sums := make([][]int, s.Vars+1) // sums[v]: the value of each row, of the constant and the first v coordinates
	for v := range sums {
		sums[v] = make([]int, len(s.Rows))
	}
	for i, r := range s.Rows {
		sums[0][i] = r.Const
		if r.Const+gains[0][i] < 0 {
			return nil, false
		}
	}
	point := make([]int, s.Vars)
	v := 0
choose:
	for v < s.Vars {
		for ; point[v] <= bound; point[v]++ {
			if fixCoordinate(s.Rows, v, point[v], sums, gains) {
				v++
				continue choose
			}
		}
		point[v] = 0
		v--
		if v < 0 {
			return nil, false
		}
		point[v]++
	}
	return point, true
}

// possibleGains returns for each v and each row the most that the coordinates from v on can add to the row.
func possibleGains(s api.System, bound int) [][]int {
	gains := make([][]int, s.Vars+1)
	gains[s.Vars] = make([]int, len(s.Rows))
	for v := s.Vars - 1; v >= 0; v-- {
		gains[v] = make([]int, len(s.Rows))
		for i, r := range s.Rows {
			gains[v][i] = gains[v+1][i] + max(0, r.Coef[v])*bound
		}
	}
	return gains
}

// fixCoordinate computes the sums after the coordinate v and reports whether each row can still hold.
func fixCoordinate(rows []api.Row, v, value int, sums, gains [][]int) bool {
	for i, r := range rows {
		sum := sums[v][i] + r.Coef[v]*value
		if sum+gains[v+1][i] < 0 {
			return false
		}
		sums[v+1][i] = sum
	}
	return true
}
