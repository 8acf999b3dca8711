package fair

import (
	"cmp"
	"slices"

	"familycheck/api"
)

// mostFound is the largest weight for which FindWeights searches.
const mostFound = 3

// Helpful returns the helpful rules of each state of Reach: see P9.8.
func Helpful(p api.Protocol, q api.Property, weights []int) ([][]int, api.Errno) {
	if errno := proofError(p, q, weights); errno != api.OK {
		return nil, errno
	}
	return graphOf(p, q).helpful(directions(p.Rules, weights)), api.OK
}

// CheckWeights reports whether the weights show that the property holds for all sizes: see P9.9.
func CheckWeights(p api.Protocol, q api.Property, weights []int) bool {
	return proofError(p, q, weights) == api.OK && graphOf(p, q).isProof(weights)
}

func proofError(p api.Protocol, q api.Property, weights []int) api.Errno {
	return cmp.Or(kindError(p, q, api.Eventually), weightsError(p, weights))
}

// FindWeights returns the first weights that CheckWeights accepts, none of them above most, and true; false if there are none.
func FindWeights(p api.Protocol, q api.Property, most int) ([]int, bool, api.Errno) {
	if errno := kindError(p, q, api.Eventually); errno != api.OK {
		return nil, false, errno
	}
	if most < 0 || most > mostFound {
		return nil, false, api.ErrArg
	}
	g := graphOf(p, q)
	for _, weights := range choices(len(p.States), most) {
		if g.isProof(weights) {
			return weights, true, api.OK
		}
	}
	return nil, false, api.OK
}

// graph has the states of Reach and what steps lead to from them. It does not depend on weights.
type graph struct {
	rules []api.Rule
	nodes []node
}

// node has the outcomes of the rules in a state of Reach.
type node []outcome

// outcome is what a step with a rule leads to.
type outcome struct {
	enabled bool
	next    []int // the nodes of the states that are not reached
}

func graphOf(p api.Protocol, q api.Property) graph {
	states := reach(p, q)
	g := graph{rules: p.Rules}
	for _, a := range states {
		var n node
		for _, r := range p.Rules {
			list := after(r, a)
			o := outcome{enabled: len(list) > 0}
			for _, b := range unreached(q, list) {
				i, _ := position(states, b)
				o.next = append(o.next, i)
			}
			n = append(n, o)
		}
		g.nodes = append(g.nodes, n)
	}
	return g
}

// isProof is CheckWeights without errors.
func (g graph) isProof(weights []int) bool {
	kinds := directions(g.rules, weights)
	for _, n := range g.nodes {
		for rule, o := range n {
			if o.enabled && kinds[rule] == raising {
				return false
			}
		}
	}
	return !slices.ContainsFunc(g.helpful(kinds), func(list []int) bool { return len(list) == 0 })
}

// helpful returns the helpful rules of each node. It begins with the rules that are helpful if no step is looked at, and removes those that a step makes unhelpful until there are none.
func (g graph) helpful(kinds []int) [][]int {
	lists := make([][]int, len(g.nodes))
	for i, n := range g.nodes {
		for rule := range g.rules {
			if kinds[rule] == lowering && n[rule].enabled && !g.isDisturbed(kinds, n, rule) {
				lists[i] = append(lists[i], rule)
			}
		}
	}
	for g.removeLost(kinds, lists) {
	}
	return lists
}

// isDisturbed reports whether a neutral rule that is enabled in n moves the processes that may take the given one.
func (g graph) isDisturbed(kinds []int, n node, rule int) bool {
	for x, o := range n {
		if kinds[x] == neutral && o.enabled && moves(g.rules[x], g.rules[rule].From) {
			return true
		}
	}
	return false
}

// removeLost removes from each list the rules that are not in the lists of the nodes to which a neutral rule leads. It reports whether there were any.
func (g graph) removeLost(kinds []int, lists [][]int) bool {
	removed := false
	for i, n := range g.nodes {
		var kept []int
		for _, rule := range lists[i] {
			if !isLost(kinds, n, lists, rule) {
				kept = append(kept, rule)
			}
		}
		removed = removed || len(kept) < len(lists[i])
		lists[i] = kept
	}
	return removed
}

func isLost(kinds []int, n node, lists [][]int, rule int) bool {
	for x, o := range n {
		if kinds[x] != neutral {
			continue
		}
		for _, i := range o.next {
			if !slices.Contains(lists[i], rule) {
				return true
			}
		}
	}
	return false
}
