package tree

import (
	"slices"

	"familycheck/api"
)

// maxNodes is the number of nodes of the largest trees that are examined and given out.
const maxNodes = 4095

func isBelow(x, limit int) bool { return x >= 0 && x < limit }

func areBelow(list []int, limit int) bool {
	return !slices.ContainsFunc(list, func(x int) bool { return !isBelow(x, limit) })
}

// Validate returns ErrArg if a is no automaton: see P7.1.
func Validate(a api.TreeAutomaton) api.Errno {
	if a.Letters < 1 || a.Letters > api.MaxLetters || a.States < 0 || a.States > api.MaxAutomaton || !areBelow(a.Accept, a.States) {
		return api.ErrArg
	}
	for _, x := range a.Leaves {
		if !isBelow(x.Letter, a.Letters) || !isBelow(x.To, a.States) {
			return api.ErrArg
		}
	}
	for _, x := range a.Branches {
		if !isBelow(x.Letter, a.Letters) || !isBelow(x.First, a.States) || !isBelow(x.Second, a.States) || !isBelow(x.To, a.States) {
			return api.ErrArg
		}
	}
	return api.OK
}

// automataError returns ErrArg if one of the automata is not valid or they do not have the same letters.
func automataError(list ...api.TreeAutomaton) api.Errno {
	for _, a := range list {
		if Validate(a) != api.OK || a.Letters != list[0].Letters {
			return api.ErrArg
		}
	}
	return api.OK
}

// ValidTree reports whether shape and labels are a tree over so many letters.
func ValidTree(letters int, shape, labels []int) bool {
	if len(shape) > maxNodes || len(shape) != len(labels) || !areBelow(labels, letters) {
		return false
	}
	missing := 1 // so many subtrees have yet to come
	for _, children := range shape {
		if missing == 0 || children != 0 && children != 2 {
			return false
		}
		missing += children - 1
	}
	return missing == 0
}

// Accepts reports whether a accepts the tree.
func Accepts(a api.TreeAutomaton, shape, labels []int) (bool, api.Errno) {
	if e := Validate(a); e != api.OK {
		return false, e
	}
	if !ValidTree(a.Letters, shape, labels) {
		return false, api.ErrArg
	}
	return networkOf(a).accepts(shape, labels), api.OK
}

// network is a nondeterministic automaton laid out for searches.
type network struct {
	letters, states int
	accept          set
	leaf            []set // by letter
	branch          []set // by letter and the states of both children
}

func newNetwork(letters, states int) network {
	return network{letters: letters, states: states, leaf: make([]set, letters), branch: make([]set, letters*states*states)}
}

// networkOf lays out a valid automaton.
func networkOf(a api.TreeAutomaton) network {
	n := newNetwork(a.Letters, a.States)
	for _, state := range a.Accept {
		n.addAccept(state)
	}
	for _, x := range a.Leaves {
		n.addLeaf(x.Letter, x.To)
	}
	for _, x := range a.Branches {
		n.addBranch(x.Letter, x.First, x.Second, x.To)
	}
	return n
}

func (n *network) addAccept(state int) { n.accept = n.accept.with(setOf(state)) }

func (n *network) addLeaf(letter, to int) {
	n.leaf[letter] = n.leaf[letter].with(setOf(to))
}

func (n *network) addBranch(letter, first, second, to int) {
	at := n.place(letter, first, second)
	n.branch[at] = n.branch[at].with(setOf(to))
}

func (n network) place(letter, first, second int) int {
	return (letter*n.states+first)*n.states + second
}

// after returns the states of an inner node whose children can have the states of the sets.
func (n network) after(letter int, first, second set) set {
	var s set
	for i := range first.members() {
		for j := range second.members() {
			s = s.with(n.branch[n.place(letter, i, j)])
		}
	}
	return s
}

// accepts reports whether the network accepts a valid tree. The last nodes come first: so the sets of both children of a node are the last ones, the first child's on top.
func (n network) accepts(shape, labels []int) bool {
	var stack []set
	for i := len(shape) - 1; i >= 0; i-- {
		if shape[i] == 0 {
			stack = append(stack, n.leaf[labels[i]])
			continue
		}
		top := len(stack) - 1
		stack[top-1] = n.after(labels[i], stack[top], stack[top-1])
		stack = stack[:top]
	}
	return stack[0].meets(n.accept)
}
