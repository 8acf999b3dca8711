package tree

import (
	"slices"

	"familycheck/api"
	"familycheck/protocol"
)

// InitialTrees returns the canonical automaton of the initial configurations of all sizes.
func InitialTrees(p api.Protocol, q api.Property) (api.TreeAutomaton, api.Errno) {
	if e := Check(p, q); e != api.OK {
		return api.TreeAutomaton{}, e
	}
	return given(initialTrees(p, q))
}

// BadTrees returns the canonical automaton of the bad configurations of all sizes.
func BadTrees(p api.Protocol, q api.Property) (api.TreeAutomaton, api.Errno) {
	if e := Check(p, q); e != api.OK {
		return api.TreeAutomaton{}, e
	}
	return given(badTrees(p, q))
}

// given returns t as a result; ErrLarge if it has more than MaxAutomaton states.
func given(t table) (api.TreeAutomaton, api.Errno) {
	if t.states() > api.MaxAutomaton {
		return api.TreeAutomaton{}, api.ErrLarge
	}
	return t.automaton(), api.OK
}

// beginning says what an initial configuration can have of a tree.
type beginning struct {
	below bool // it can be a subtree below the root
	whole bool // it can be the whole tree
}

func initialTrees(p api.Protocol, q api.Property) table {
	starts, _ := protocol.Starts(p, q)
	leader := starts
	if len(p.Leader) > 0 {
		leader = p.Leader
	}
	leaf := func(letter int) beginning {
		return beginning{slices.Contains(starts, letter), slices.Contains(leader, letter)}
	}
	t, _ := tableOf(evaluator[beginning]{
		letters: len(p.States),
		leaf:    leaf,
		branch: func(letter int, first, second beginning) beginning {
			if !first.below || !second.below {
				return beginning{}
			}
			return leaf(letter)
		},
		accepts: func(x beginning) bool { return x.whole },
	}, nil)
	return t.canonical()
}

// scan is what a tree has of a bad configuration.
type scan struct {
	counts [api.MaxCounts]int // for each count, its processes, up to as many as it demands
	child  bool               // the root is in the second state of Adjacent
	found  bool               // there are neighbors as in Adjacent
}

func badTrees(p api.Protocol, q api.Property) table {
	t, _ := tableOf(evaluator[scan]{
		letters: len(p.States),
		leaf:    func(letter int) scan { return scanOf(q, letter, scan{}, scan{}) },
		branch:  func(letter int, first, second scan) scan { return scanOf(q, letter, first, second) },
		accepts: func(s scan) bool { return s.isBad(q) },
	}, nil)
	return t.canonical()
}

// scanOf joins a node and the trees below it. A leaf has two that are empty.
func scanOf(q api.Property, letter int, first, second scan) scan {
	var s scan
	for i, c := range q.Bad {
		s.counts[i] = first.counts[i] + second.counts[i]
		if slices.Contains(c.States, letter) {
			s.counts[i]++
		}
		s.counts[i] = min(s.counts[i], c.Least)
	}
	if len(q.Adjacent) > 0 {
		s.child = letter == q.Adjacent[1]
		s.found = first.found || second.found || letter == q.Adjacent[0] && (first.child || second.child)
	}
	return s
}

// isBad reports whether the tree is a bad configuration.
func (s scan) isBad(q api.Property) bool {
	for i, c := range q.Bad {
		if s.counts[i] < c.Least {
			return false
		}
	}
	return len(q.Adjacent) == 0 || s.found
}
