package unfold

import (
	"slices"

	"familycheck/api"
)

// link has the neighbors of a process: those before and after it or its children, and its parent; -1 where there is none.
type link struct {
	first, second, parent int
}

// Neighbors returns the neighbors of process i of count processes, each -1 if there is none.
func Neighbors(topology int, shape []int, count, i int) (first, second, parent int) {
	l := link{-1, -1, -1}
	if i >= 0 && i < count {
		switch topology {
		case api.Line, api.Ring:
			l = rowLink(topology, count, i)
		case api.Tree:
			if isShape(shape, count) {
				l = treeLinks(shape)[i]
			}
		}
	}
	return l.first, l.second, l.parent
}

// linksOf returns the neighbors of all processes; the shape of a Tree is known to be one.
func linksOf(topology int, shape []int, count int) []link {
	switch topology {
	case api.Line, api.Ring:
		links := make([]link, count)
		for i := range links {
			links[i] = rowLink(topology, count, i)
		}
		return links
	case api.Tree:
		return treeLinks(shape)
	}
	return nil
}

// rowLink returns the neighbors of process i in a Line or Ring.
func rowLink(topology, count, i int) link {
	l := link{i - 1, i + 1, -1}
	if i == count-1 {
		l.second = -1
	}
	if topology == api.Ring {
		if i == 0 {
			l.first = count - 1
		}
		if i == count-1 {
			l.second = 0
		}
	}
	return l
}

// treeLinks goes through the nodes of a shape in preorder: the parent of a node is the last node before it that still waits for a child.
func treeLinks(shape []int) []link {
	links := make([]link, len(shape))
	var waiting []int
	for i, children := range shape {
		links[i] = link{-1, -1, -1}
		if last := len(waiting) - 1; last >= 0 {
			parent := waiting[last]
			links[i].parent = parent
			if links[parent].first < 0 {
				links[parent].first = i
			} else {
				links[parent].second = i
				waiting = waiting[:last]
			}
		}
		if children == 2 {
			waiting = append(waiting, i)
		}
	}
	return links
}

// isShape reports whether a list is the shape of a tree with count nodes.
func isShape(list []int, count int) bool {
	if len(list) != count {
		return false
	}
	missing := 1
	for _, children := range list {
		if missing == 0 || children != 0 && children != 2 {
			return false
		}
		missing += children - 1
	}
	return missing == 0
}

// Shapes returns the shapes with n nodes in ascending order.
func Shapes(n int) ([][]int, api.Errno) {
	if n < 1 || n > api.MaxProcesses {
		return nil, api.ErrArg
	}
	var all [][]int
	list := make([]int, n)
	// The digits of the numbers below 2^n are the lists of n children counts in ascending order.
	for number := range 1 << n {
		for i := range list {
			list[i] = number >> (n - 1 - i) & 1 * 2
		}
		if isShape(list, n) {
			all = append(all, slices.Clone(list))
		}
	}
	return all, api.OK
}
