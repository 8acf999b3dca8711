package tree

import (
	"familycheck/api"
)

// Witness returns one of the smallest trees that a accepts; false if there is none.
func Witness(a api.TreeAutomaton) (shape, labels []int, found bool, e api.Errno) {
	if e := Validate(a); e != api.OK {
		return nil, nil, false, e
	}
	w := growthOf(a)
	root := -1
	for _, state := range a.Accept {
		if w[state].nodes > 0 && (root < 0 || w[state].nodes < w[root].nodes) {
			root = state
		}
	}
	if root < 0 {
		return nil, nil, false, api.OK
	}
	if w[root].nodes > maxNodes {
		return nil, nil, false, api.ErrLarge
	}
	shape, labels = w.tree(root)
	return shape, labels, true, api.OK
}

// growth has, for each state, how a smallest tree that can have it comes about.
type growth []top

// top is the top of a tree: a leaf or a branch.
type top struct {
	nodes                 int // of the whole tree, or above maxNodes; 0: there is no tree
	letter, first, second int // first and second are the states of the children
}

// growthOf makes trees larger until none becomes smaller. A smallest tree has no state twice on one path, so this takes as many rounds as there are states at most.
func growthOf(a api.TreeAutomaton) growth {
	w := make(growth, a.States)
	for _, x := range a.Leaves {
		w[x.To] = top{nodes: 1, letter: x.Letter}
	}
	for changed := true; changed; {
		changed = false
		for _, x := range a.Branches {
			first, second := w[x.First].nodes, w[x.Second].nodes
			if first == 0 || second == 0 {
				continue
			}
			nodes := min(1+first+second, maxNodes+1)
			if w[x.To].nodes == 0 || nodes < w[x.To].nodes {
				w[x.To] = top{nodes, x.Letter, x.First, x.Second}
				changed = true
			}
		}
	}
	return w
}

// tree writes down the tree of a state in preorder.
func (w growth) tree(root int) (shape, labels []int) {
	next := []int{root}
	for len(next) > 0 {
		x := w[next[len(next)-1]]
		next = next[:len(next)-1]
		labels = append(labels, x.letter)
		if x.nodes == 1 {
			shape = append(shape, 0)
			continue
		}
		shape = append(shape, 2)
		next = append(next, x.second, x.first)
	}
	return shape, labels
}
