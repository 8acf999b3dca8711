package tree

import (
	"fmt"
	"slices"

	"familycheck/api"
)

// The functions of this file follow the document's sentences one by one, without regard to work and without any of the package's code. Their arguments have no errors.

// plainTree is a tree as its nodes refer to each other.
type plainTree struct {
	label int
	kids  []plainTree // none or two
}

func (x plainTree) shape() []int {
	list := ints(len(x.kids))
	for _, kid := range x.kids {
		list = append(list, kid.shape()...)
	}
	return list
}

func (x plainTree) labels() []int {
	list := ints(x.label)
	for _, kid := range x.kids {
		list = append(list, kid.labels()...)
	}
	return list
}

// plainTrees returns all trees with so many nodes.
func plainTrees(letters, nodes int) []plainTree {
	var all []plainTree
	for label := range letters {
		if nodes == 1 {
			all = append(all, plainTree{label, nil})
		}
		for n := 1; n < nodes-1; n += 2 {
			for _, first := range plainTrees(letters, n) {
				for _, second := range plainTrees(letters, nodes-1-n) {
					all = append(all, plainTree{label, []plainTree{first, second}})
				}
			}
		}
	}
	return all
}

// plainTreesTo returns all trees with at most so many nodes, smaller ones first.
func plainTreesTo(letters, nodes int) []plainTree {
	var all []plainTree
	for n := 1; n <= nodes; n += 2 {
		all = append(all, plainTrees(letters, n)...)
	}
	return all
}

// plainStates returns the states that the root can have, each once and in ascending order.
func plainStates(a api.TreeAutomaton, x plainTree) []int {
	if len(x.kids) == 0 {
		return plainLeaf(a, x.label)
	}
	return plainBranch(a, x.label, plainStates(a, x.kids[0]), plainStates(a, x.kids[1]))
}

func plainLeaf(a api.TreeAutomaton, letter int) []int {
	var list []int
	for _, l := range a.Leaves {
		if l.Letter == letter {
			list = append(list, l.To)
		}
	}
	return plainSet(list)
}

func plainBranch(a api.TreeAutomaton, letter int, first, second []int) []int {
	var list []int
	for _, b := range a.Branches {
		if b.Letter == letter && slices.Contains(first, b.First) && slices.Contains(second, b.Second) {
			list = append(list, b.To)
		}
	}
	return plainSet(list)
}

func plainSet(list []int) []int {
	slices.Sort(list)
	return slices.Compact(list)
}

func plainAccepts(a api.TreeAutomaton, x plainTree) bool { return meet(plainStates(a, x), a.Accept) }

func meet(a, b []int) bool {
	return slices.ContainsFunc(a, func(x int) bool { return slices.Contains(b, x) })
}

// plainTable is a complete deterministic automaton of any size.
type plainTable struct {
	accept []bool
	leaf   []int            // by letter
	branch []map[[2]int]int // by letter
}

// plainSubsets makes all subsets of an automaton known, round by round.
func plainSubsets(a api.TreeAutomaton) plainTable {
	x := plainTable{branch: make([]map[[2]int]int, a.Letters)}
	at := make([]map[int][][2]int, a.Letters) // the branches that there are: by letter and first, the second and the next state
	for letter := range at {
		at[letter], x.branch[letter] = map[int][][2]int{}, map[[2]int]int{}
	}
	for _, b := range a.Branches {
		at[b.Letter][b.First] = append(at[b.Letter][b.First], [2]int{b.Second, b.To})
	}
	number := map[string]int{}
	var list [][]int
	find := func(states []int) int {
		name := fmt.Sprint(states)
		if _, ok := number[name]; !ok {
			number[name] = len(list)
			list = append(list, states)
			x.accept = append(x.accept, meet(states, a.Accept))
		}
		return number[name]
	}
	for letter := range a.Letters {
		x.leaf = append(x.leaf, find(plainLeaf(a, letter)))
	}
	for known := 0; known < len(list); {
		known = len(list)
		for letter := range a.Letters {
			for i := range known {
				for j := range known {
					if _, ok := x.branch[letter][[2]int{i, j}]; ok {
						continue
					}
					var to []int
					for _, first := range list[i] {
						for _, b := range at[letter][first] {
							if slices.Contains(list[j], b[0]) {
								to = append(to, b[1])
							}
						}
					}
					x.branch[letter][[2]int{i, j}] = find(plainSet(to))
				}
			}
		}
	}
	return x
}

// plainApart tells states apart that are accepted differently, and then states that a branch leads to states that are told apart, in so many rounds at most. All of the states have to occur.
func (x plainTable) plainApart(rounds int) [][]bool {
	n := len(x.accept)
	apart := make([][]bool, n)
	for i := range apart {
		apart[i] = make([]bool, n)
		for j := range n {
			apart[i][j] = x.accept[i] != x.accept[j]
		}
	}
	for again := true; again && rounds > 0; rounds-- {
		again = false
		next := make([][]bool, n)
		for i := range next {
			next[i] = slices.Clone(apart[i])
			for j := range n {
				for _, branch := range x.branch {
					for r := range n {
						if !next[i][j] && (apart[branch[[2]int{i, r}]][branch[[2]int{j, r}]] || apart[branch[[2]int{r, i}]][branch[[2]int{r, j}]]) {
							next[i][j], again = true, true
						}
					}
				}
			}
		}
		apart = next
	}
	return apart
}

// plainCanonical numbers what cannot be told apart as P7.3 says.
func plainCanonical(a api.TreeAutomaton) api.TreeAutomaton {
	x := plainSubsets(a)
	apart := x.plainApart(len(x.accept))
	c := api.TreeAutomaton{Letters: a.Letters}
	var met []int // a subset for each state
	find := func(i int) int {
		state := slices.IndexFunc(met, func(j int) bool { return !apart[i][j] })
		if state < 0 {
			met = append(met, i)
			state = len(met) - 1
		}
		return state
	}
	for letter, i := range x.leaf {
		c.Leaves = append(c.Leaves, api.Leaf{Letter: letter, To: find(i)})
	}
	for known := 0; known < len(met); {
		known = len(met)
		c.Branches = nil
		for letter, branch := range x.branch {
			for i := range known {
				for j := range known {
					c.Branches = append(c.Branches, api.Branch{Letter: letter, First: i, Second: j, To: find(branch[[2]int{met[i], met[j]}])})
				}
			}
		}
	}
	for state, i := range met {
		if x.accept[i] {
			c.Accept = append(c.Accept, state)
		}
	}
	c.States = len(met)
	return c
}

// plainPairs runs two complete deterministic automata side by side; keep says when a pair accepts.
func plainPairs(a, b api.TreeAutomaton, keep func(x, y bool) bool) api.TreeAutomaton {
	c := api.TreeAutomaton{Letters: a.Letters, States: a.States * b.States}
	for i := range a.States {
		for j := range b.States {
			if keep(slices.Contains(a.Accept, i), slices.Contains(b.Accept, j)) {
				c.Accept = append(c.Accept, i*b.States+j)
			}
		}
	}
	for _, x := range a.Leaves {
		for _, y := range b.Leaves {
			if x.Letter == y.Letter {
				c.Leaves = append(c.Leaves, api.Leaf{Letter: x.Letter, To: x.To*b.States + y.To})
			}
		}
	}
	for _, x := range a.Branches {
		for _, y := range b.Branches {
			if x.Letter == y.Letter {
				c.Branches = append(c.Branches, api.Branch{Letter: x.Letter, First: x.First*b.States + y.First, Second: x.Second*b.States + y.Second, To: x.To*b.States + y.To})
			}
		}
	}
	return c
}

func plainIncluded(a, b api.TreeAutomaton) bool {
	both := plainPairs(plainCanonical(a), plainCanonical(b), func(x, y bool) bool { return x && !y })
	return len(plainCanonical(both).Accept) == 0
}

// plainUnion puts automata beside each other.
func plainUnion(list ...api.TreeAutomaton) api.TreeAutomaton {
	c := api.TreeAutomaton{Letters: list[0].Letters}
	for _, a := range list {
		for _, s := range a.Accept {
			c.Accept = append(c.Accept, c.States+s)
		}
		for _, x := range a.Leaves {
			c.Leaves = append(c.Leaves, api.Leaf{Letter: x.Letter, To: c.States + x.To})
		}
		for _, x := range a.Branches {
			c.Branches = append(c.Branches, api.Branch{Letter: x.Letter, First: c.States + x.First, Second: c.States + x.Second, To: c.States + x.To})
		}
		c.States += a.States
	}
	return c
}

// plainMerged is the merged automaton of P7.8.
func plainMerged(a api.TreeAutomaton, depth int) api.TreeAutomaton {
	c := plainCanonical(a)
	apart := plainSubsets(c).plainApart(depth) // the canonical automaton is deterministic, and its subsets are met in the order of its states
	class := make([]int, c.States)
	m := api.TreeAutomaton{Letters: c.Letters}
	for s := range class {
		class[s] = -1
		for other := range s {
			if !apart[s][other] {
				class[s] = class[other]
			}
		}
		if class[s] < 0 {
			class[s] = m.States
			m.States++
		}
	}
	for _, s := range c.Accept {
		m.Accept = append(m.Accept, class[s])
	}
	for _, x := range c.Leaves {
		m.Leaves = append(m.Leaves, api.Leaf{Letter: x.Letter, To: class[x.To]})
	}
	for _, x := range c.Branches {
		m.Branches = append(m.Branches, api.Branch{Letter: x.Letter, First: class[x.First], Second: class[x.Second], To: class[x.To]})
	}
	return m
}

func plainMerge(a api.TreeAutomaton, depth int) api.TreeAutomaton {
	return plainCanonical(plainMerged(a, depth))
}

// plainSmallest returns the number of nodes of the smallest trees that a accepts; 0 if there are none. It makes the trees of each size from those of smaller ones.
func plainSmallest(a api.TreeAutomaton) int {
	has := map[[2]int]bool{} // by the number of nodes and a state
	for n := 1; n <= 1<<(a.States+1); n += 2 {
		for _, x := range a.Leaves {
			if n == 1 {
				has[[2]int{1, x.To}] = true
			}
		}
		for _, x := range a.Branches {
			for k := 1; k < n-1; k += 2 {
				if has[[2]int{k, x.First}] && has[[2]int{n - 1 - k, x.Second}] {
					has[[2]int{n, x.To}] = true
				}
			}
		}
		for _, s := range a.Accept {
			if has[[2]int{n, s}] {
				return n
			}
		}
	}
	return 0
}

// plainNext returns the configurations that one step with the rule leads to. The parent is the state of the parent of the tree's root; -1 if there is none.
func plainNext(r api.Rule, x plainTree, parent int) []plainTree {
	var all []plainTree
	if r.Kind == api.Neighbor && x.label == r.From && plainFits(r, x, parent) {
		all = append(all, plainTree{r.To, x.kids})
	}
	for i, kid := range x.kids {
		with := func(label int, kid plainTree) {
			kids := slices.Clone(x.kids)
			kids[i] = kid
			all = append(all, plainTree{label, kids})
		}
		for _, next := range plainNext(r, kid, x.label) {
			with(x.label, next)
		}
		if r.Kind == api.Pass && r.Direction == api.ToChild && x.label == r.From && kid.label == r.PartnerFrom {
			with(r.To, plainTree{r.PartnerTo, kid.kids})
		}
		if r.Kind == api.Pass && r.Direction == api.ToParent && x.label == r.PartnerFrom && kid.label == r.From {
			with(r.PartnerTo, plainTree{r.To, kid.kids})
		}
	}
	return all
}

// plainFits examines what a Neighbor rule demands of the place of a process.
func plainFits(r api.Rule, x plainTree, parent int) bool {
	switch {
	case r.At == api.AtFirst && parent != -1, r.At == api.AtLast && len(x.kids) > 0:
		return false
	case len(r.Left) > 0 && (len(x.kids) == 0 || !slices.Contains(r.Left, x.kids[0].label)):
		return false
	case len(r.Right) > 0 && (len(x.kids) == 0 || !slices.Contains(r.Right, x.kids[1].label)):
		return false
	}
	return len(r.Parent) == 0 || parent != -1 && slices.Contains(r.Parent, parent)
}

// How far a step has come in a tree that it changes.
const (
	process = iota // the root is the process, and its parent has to be examined
	partner        // the root is the partner, and its parent is the process
	alone          // the root is the process and may have no parent
	over           // there is nothing more to examine
	ways
)

// plainStepper makes the automaton of plainPost. A state says which state of a the tree before the step has, and how far the step has come, or the label of the root if it has not begun.
type plainStepper struct {
	r    api.Rule
	a, c api.TreeAutomaton
}

// plainPost accepts what a step with the rule leads to from a tree of a, which has to be complete and deterministic.
func plainPost(r api.Rule, a api.TreeAutomaton) api.TreeAutomaton {
	x := &plainStepper{r, a, api.TreeAutomaton{Letters: a.Letters, States: (a.Letters + ways) * a.States}}
	for _, q := range a.Accept {
		x.c.Accept = append(x.c.Accept, x.later(q, alone), x.later(q, over))
	}
	for _, l := range a.Leaves {
		x.addLeaves(l)
	}
	for _, b := range a.Branches {
		for one := range a.Letters {
			for two := range a.Letters {
				x.addStill(b, one, two)
			}
			x.addLater(b, one)
		}
	}
	return x.c
}

func (x *plainStepper) still(q, label int) int { return label*x.a.States + q }

func (x *plainStepper) later(q, how int) int { return (x.a.Letters+how)*x.a.States + q }

func (x *plainStepper) add(letter, first, second, to int) {
	x.c.Branches = append(x.c.Branches, api.Branch{Letter: letter, First: first, Second: second, To: to})
}

// changed is the state of a tree whose root is the first node that is changed, from one label to another; -1 if the rule does not do so.
func (x *plainStepper) changed(q, before, after int) int {
	r := x.r
	neighbor := r.Kind == api.Neighbor && before == r.From && after == r.To
	switch {
	case r.Kind == api.Pass && r.Direction == api.ToChild && before == r.PartnerFrom && after == r.PartnerTo:
		return x.later(q, partner)
	case r.Kind == api.Pass && r.Direction == api.ToParent && before == r.From && after == r.To:
		return x.later(q, process)
	case neighbor && len(r.Parent) > 0 && r.At != api.AtFirst:
		return x.later(q, process)
	case neighbor && len(r.Parent) == 0 && r.At == api.AtFirst:
		return x.later(q, alone)
	case neighbor && len(r.Parent) == 0:
		return x.later(q, over)
	}
	return -1
}

func (x *plainStepper) addLeaves(l api.Leaf) {
	x.c.Leaves = append(x.c.Leaves, api.Leaf{Letter: l.Letter, To: x.still(l.To, l.Letter)})
	for after := range x.a.Letters {
		if to := x.changed(l.To, l.Letter, after); to >= 0 && len(x.r.Left) == 0 && len(x.r.Right) == 0 {
			x.c.Leaves = append(x.c.Leaves, api.Leaf{Letter: after, To: to})
		}
	}
}

// addStill adds what is possible above two children with the given labels that are not changed.
func (x *plainStepper) addStill(b api.Branch, one, two int) {
	first, second := x.still(b.First, one), x.still(b.Second, two)
	x.add(b.Letter, first, second, x.still(b.To, b.Letter))
	left := len(x.r.Left) == 0 || slices.Contains(x.r.Left, one)
	right := len(x.r.Right) == 0 || slices.Contains(x.r.Right, two)
	for after := range x.a.Letters {
		if to := x.changed(b.To, b.Letter, after); to >= 0 && left && right && x.r.At != api.AtLast {
			x.add(after, first, second, to)
		}
	}
}

// addLater adds what is possible above a child with the given label that is not changed and one that is.
func (x *plainStepper) addLater(b api.Branch, label int) {
	ends := func(letter, how int) {
		to := x.later(b.To, over)
		x.add(letter, x.later(b.First, how), x.still(b.Second, label), to)
		x.add(letter, x.still(b.First, label), x.later(b.Second, how), to)
	}
	ends(b.Letter, over)
	switch r := x.r; {
	case r.Kind == api.Neighbor && slices.Contains(r.Parent, b.Letter):
		ends(b.Letter, process)
	case r.Kind == api.Pass && r.Direction == api.ToParent && b.Letter == r.PartnerFrom:
		ends(r.PartnerTo, process)
	case r.Kind == api.Pass && r.Direction == api.ToChild && b.Letter == r.From:
		ends(r.To, partner)
	}
}

func plainInitial(p api.Protocol, q api.Property, x plainTree) bool {
	starts := p.Initial
	if len(q.Start) > 0 {
		starts = q.Start
	}
	for i, label := range x.labels() {
		if i == 0 && len(p.Leader) > 0 {
			if !slices.Contains(p.Leader, label) {
				return false
			}
		} else if !slices.Contains(starts, label) {
			return false
		}
	}
	return true
}

func plainBad(q api.Property, x plainTree) bool {
	for _, c := range q.Bad {
		found := 0
		for _, label := range x.labels() {
			if slices.Contains(c.States, label) {
				found++
			}
		}
		if found < c.Least {
			return false
		}
	}
	return len(q.Adjacent) == 0 || plainBeside(q.Adjacent, x)
}

// plainBeside reports whether a node and a child of it are in the two states.
func plainBeside(states []int, x plainTree) bool {
	return slices.ContainsFunc(x.kids, func(kid plainTree) bool {
		return x.label == states[0] && kid.label == states[1] || plainBeside(states, kid)
	})
}
