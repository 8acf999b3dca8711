package unfold

import (
	"slices"

	"familycheck/api"
)

// arrow is a step between two configurations of a graph, which are given by their places.
type arrow struct {
	from, to int
	step     api.Step
}

// graph has the configurations of an exploration and the steps between them. A part is a largest set of configurations that all reach each other: a loop stays in one.
type graph struct {
	arrows  [][]arrow // by their from
	forced  []pairs   // the pairs that are forced in each configuration
	part    []int     // the number of the part of each configuration
	starved []pairs   // by part: the pairs that are forced in all its configurations and taken by none of its steps
}

func (y *system) graphOf(w *walk) *graph {
	g := &graph{arrows: make([][]arrow, len(w.list)), forced: make([]pairs, len(w.list))}
	for i, c := range w.list {
		g.forced[i] = y.forcedPairs(c)
		for x := range y.steps(c) {
			if to, ok := w.places[y.after(c, x)]; ok {
				g.arrows[i] = append(g.arrows[i], arrow{i, to, x})
			}
		}
	}
	g.findParts()
	g.findStarved()
	return g
}

func (g *graph) findStarved() {
	for i, part := range g.part {
		g.starved[part] &= g.forced[i]
		for _, a := range g.arrows[i] {
			if g.part[a.to] == part {
				g.starved[part] &^= pairOf(a.step.Rule, a.step.Process)
			}
		}
	}
}

// partFinder is Tarjan's search for the parts of a graph.
type partFinder struct {
	graph  *graph
	visits int
	number []int // when each configuration is first visited, from 1 on
	low    []int // the smallest number known to be reached in the same part
	stack  []int // the visited configurations without a part
}

func (g *graph) findParts() {
	count := len(g.arrows)
	g.part = slices.Repeat([]int{-1}, count)
	f := &partFinder{graph: g, number: make([]int, count), low: make([]int, count)}
	for i := range count {
		if f.number[i] == 0 {
			f.visit(i)
		}
	}
}

func (f *partFinder) visit(i int) {
	f.visits++
	f.number[i], f.low[i] = f.visits, f.visits
	f.stack = append(f.stack, i)
	for _, a := range f.graph.arrows[i] {
		if f.number[a.to] == 0 {
			f.visit(a.to)
			f.low[i] = min(f.low[i], f.low[a.to])
		} else if f.graph.part[a.to] < 0 {
			f.low[i] = min(f.low[i], f.number[a.to])
		}
	}
	if f.low[i] == f.number[i] {
		f.closePart(i)
	}
}

// closePart makes a part of what has been visited since the configuration i and has no part yet.
func (f *partFinder) closePart(i int) {
	first := slices.Index(f.stack, i)
	for _, member := range f.stack[first:] {
		f.graph.part[member] = len(f.graph.starved)
	}
	f.stack = f.stack[:first]
	f.graph.starved = append(f.graph.starved, ^pairs(0))
}

// loop returns steps from a configuration of a part without starved pairs back to it, such that each pair is taken or not forced once.
func (g *graph) loop(end int) []api.Step {
	var list []api.Step
	at := end
	starved := g.forced[end]
	follow := func(way []arrow) {
		for _, a := range way {
			list = append(list, a.step)
			at = a.to
			starved &= g.forced[at] &^ pairOf(a.step.Rule, a.step.Process)
		}
	}
	for starved != 0 {
		follow(g.way(at, func(a arrow) bool {
			return starved&(g.forced[a.to]&^pairOf(a.step.Rule, a.step.Process)) != starved
		}))
	}
	if at != end {
		follow(g.way(at, func(a arrow) bool { return a.to == end }))
	}
	return list
}

// way returns the fewest arrows in the part of a configuration that lead from it to an arrow that is wanted, and that one.
func (g *graph) way(from int, wanted func(arrow) bool) []arrow {
	came := map[int]arrow{from: {}}
	list := []int{from}
	for i := 0; i < len(list); i++ {
		for _, a := range g.arrows[list[i]] {
			if g.part[a.to] != g.part[from] {
				continue
			}
			if wanted(a) {
				return g.wayBack(came, from, a)
			}
			if _, known := came[a.to]; !known {
				came[a.to] = a
				list = append(list, a.to)
			}
		}
	}
	return nil
}

func (g *graph) wayBack(came map[int]arrow, from int, last arrow) []arrow {
	way := []arrow{last}
	for last.from != from {
		last = came[last.from]
		way = append(way, last)
	}
	slices.Reverse(way)
	return way
}
