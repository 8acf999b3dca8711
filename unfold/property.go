package unfold

import (
	"slices"

	"familycheck/api"
	"familycheck/protocol"
)

// Counts returns the number of correct processes in each state.
func Counts(p api.Protocol, c api.Config) ([]int, api.Errno) {
	if e := protocol.Validate(p); e != api.OK {
		return nil, e
	}
	if !hasProcesses(p, c) {
		return nil, api.ErrArg
	}
	counts := make([]int, len(p.States))
	for _, state := range c.States[:c.Correct] {
		counts[state]++
	}
	return counts, api.OK
}

// hasProcesses examines the fields that describe processes; their number may be any.
func hasProcesses(p api.Protocol, c api.Config) bool {
	return areBelow(c.States, len(p.States)) && c.Correct >= 0 && c.Correct <= len(c.States)
}

// Bad reports whether c is a bad configuration of the Never property q.
func Bad(p api.Protocol, q api.Property, c api.Config) (bool, api.Errno) {
	if e := propertyError(p, q, api.Never); e != api.OK {
		return false, e
	}
	if !hasProcesses(p, c) || p.Topology == api.Tree && !isShape(c.Shape, len(c.States)) {
		return false, api.ErrArg
	}
	return isBad(p, q, c.States, c.Correct, linksOf(p.Topology, c.Shape, len(c.States))), api.OK
}

// Reached reports whether all correct processes of c are in states of the goal.
func Reached(p api.Protocol, q api.Property, c api.Config) (bool, api.Errno) {
	if e := propertyError(p, q, api.Eventually); e != api.OK {
		return false, e
	}
	if !hasProcesses(p, c) {
		return false, api.ErrArg
	}
	return isReached(q, c.States[:c.Correct]), api.OK
}

// propertyError returns ErrClass, after the errors of R2, if q is not of the kind.
func propertyError(p api.Protocol, q api.Property, kind int) api.Errno {
	if e := protocol.ValidateProperty(p, q); e != api.OK {
		return e
	}
	if q.Kind != kind {
		return api.ErrClass
	}
	return api.OK
}

// isBad takes the states of all processes and, but for a Clique, their neighbors.
func isBad(p api.Protocol, q api.Property, states []int, correct int, links []link) bool {
	for _, count := range q.Bad {
		found := 0
		for _, state := range states[:correct] {
			if slices.Contains(count.States, state) {
				found++
			}
		}
		if found < count.Least {
			return false
		}
	}
	return len(q.Adjacent) == 0 || hasAdjacent(p.Topology, q.Adjacent, states, links)
}

// hasAdjacent looks for a process in the first state of the pair with a right neighbor, in a Tree a child, in the second.
func hasAdjacent(topology int, pair, states []int, links []link) bool {
	isSecond := func(i int) bool { return i >= 0 && states[i] == pair[1] }
	for i, state := range states {
		if state == pair[0] && (isSecond(links[i].second) || topology == api.Tree && isSecond(links[i].first)) {
			return true
		}
	}
	return false
}

func isReached(q api.Property, correct []int) bool {
	return !slices.ContainsFunc(correct, func(state int) bool { return !slices.Contains(q.Goal, state) })
}
