package word

import (
	"fmt"
	"slices"

	"familycheck/api"
)

// The functions of this file follow the document's sentences one by one, without regard to work and without any of the package's code. Their arguments have no errors.

// plainWords returns all words of a length in ascending order.
func plainWords(letters, length int) [][]int {
	if length == 0 {
		return [][]int{nil}
	}
	var all [][]int
	for _, w := range plainWords(letters, length-1) {
		for x := range letters {
			all = append(all, append(slices.Clone(w), x))
		}
	}
	return all
}

// plainWordsTo returns all words with at most so many letters, shorter ones first.
func plainWordsTo(letters, length int) [][]int {
	var all [][]int
	for n := range length + 1 {
		all = append(all, plainWords(letters, n)...)
	}
	return all
}

// plainPath looks for a path from one of the states on that accepts w.
func plainPath(a api.Automaton, states, w []int) bool {
	for _, s := range states {
		if len(w) == 0 && slices.Contains(a.Accept, s) {
			return true
		}
		for _, e := range a.Edges {
			if len(w) > 0 && e.From == s && e.Letter == w[0] && plainPath(a, ints(e.To), w[1:]) {
				return true
			}
		}
	}
	return false
}

func plainAccepts(a api.Automaton, w []int) bool { return plainPath(a, a.Start, w) }

func plainRelates(t api.Transducer, u, v []int) bool {
	var path func(state, at int) bool
	path = func(state, at int) bool {
		if at == len(u) {
			return slices.Contains(t.Accept, state)
		}
		return slices.ContainsFunc(t.Moves, func(m api.Move) bool {
			return m.From == state && m.In == u[at] && m.Out == v[at] && path(m.To, at+1)
		})
	}
	return len(u) == len(v) && slices.ContainsFunc(t.Start, func(s int) bool { return path(s, 0) })
}

// plainSubsets returns the subsets of an automaton as lists of states, and for each and each letter the number of the next one.
func plainSubsets(a api.Automaton) ([][]int, [][]int) {
	number := map[string]int{}
	var list [][]int
	find := func(states []int) int {
		states = slices.Clone(states)
		slices.Sort(states)
		states = slices.Compact(states)
		name := fmt.Sprint(states)
		if _, ok := number[name]; !ok {
			number[name] = len(list)
			list = append(list, states)
		}
		return number[name]
	}
	find(a.Start)
	var next [][]int
	for i := 0; i < len(list); i++ {
		next = append(next, make([]int, a.Letters))
		for x := range a.Letters {
			var to []int
			for _, e := range a.Edges {
				if e.Letter == x && slices.Contains(list[i], e.From) {
					to = append(to, e.To)
				}
			}
			next[i][x] = find(to)
		}
	}
	return list, next
}

// plainCanonical tells apart pairs of subsets until no more can be told apart, and numbers what is left as P6.3 says.
func plainCanonical(a api.Automaton) api.Automaton {
	list, next := plainSubsets(a)
	accepts := func(i int) bool {
		return slices.ContainsFunc(list[i], func(s int) bool { return slices.Contains(a.Accept, s) })
	}
	apart := make([][]bool, len(list))
	for i := range list {
		apart[i] = make([]bool, len(list))
		for j := range list {
			apart[i][j] = accepts(i) != accepts(j)
		}
	}
	for again := true; again; {
		again = false
		for i := range list {
			for j := range list {
				for x := range a.Letters {
					if !apart[i][j] && apart[next[i][x]][next[j][x]] {
						apart[i][j], again = true, true
					}
				}
			}
		}
	}
	c := api.Automaton{Letters: a.Letters, Start: ints(0)}
	met := ints(0) // a subset for each state, in the order in which the search meets them
	find := func(i int) int {
		state := slices.IndexFunc(met, func(j int) bool { return !apart[i][j] })
		if state < 0 {
			met = append(met, i)
			state = len(met) - 1
		}
		return state
	}
	for state := 0; state < len(met); state++ {
		if accepts(met[state]) {
			c.Accept = append(c.Accept, state)
		}
		for x := range a.Letters {
			c.Edges = append(c.Edges, api.Edge{From: state, Letter: x, To: find(next[met[state]][x])})
		}
	}
	c.States = len(met)
	return c
}

// plainPairs is the automaton that runs two side by side; keep says when a pair accepts. Both have to be complete and deterministic.
func plainPairs(a, b api.Automaton, keep func(x, y bool) bool) api.Automaton {
	c := api.Automaton{Letters: a.Letters, States: a.States * b.States, Start: ints(a.Start[0]*b.States + b.Start[0])}
	for i := range a.States {
		for j := range b.States {
			if keep(slices.Contains(a.Accept, i), slices.Contains(b.Accept, j)) {
				c.Accept = append(c.Accept, i*b.States+j)
			}
		}
	}
	for _, e := range a.Edges {
		for _, f := range b.Edges {
			if e.Letter == f.Letter {
				c.Edges = append(c.Edges, api.Edge{From: e.From*b.States + f.From, Letter: e.Letter, To: e.To*b.States + f.To})
			}
		}
	}
	return c
}

func plainIncluded(a, b api.Automaton) bool {
	both := plainPairs(plainCanonical(a), plainCanonical(b), func(x, y bool) bool { return x && !y })
	return len(plainCanonical(both).Accept) == 0
}

// plainUnion puts two automata beside each other.
func plainUnion(a, b api.Automaton) api.Automaton {
	c := cloned(a)
	c.States += b.States
	for _, s := range b.Start {
		c.Start = append(c.Start, a.States+s)
	}
	for _, s := range b.Accept {
		c.Accept = append(c.Accept, a.States+s)
	}
	for _, e := range b.Edges {
		c.Edges = append(c.Edges, api.Edge{From: a.States + e.From, Letter: e.Letter, To: a.States + e.To})
	}
	return c
}

// plainImage is the automaton of the pairs that P6.7 describes.
func plainImage(t api.Transducer, a api.Automaton) api.Automaton {
	c := api.Automaton{Letters: a.Letters, States: t.States * a.States}
	for i := range t.States {
		for j := range a.States {
			if slices.Contains(t.Start, i) && slices.Contains(a.Start, j) {
				c.Start = append(c.Start, i*a.States+j)
			}
			if slices.Contains(t.Accept, i) && slices.Contains(a.Accept, j) {
				c.Accept = append(c.Accept, i*a.States+j)
			}
		}
	}
	for _, m := range t.Moves {
		for _, e := range a.Edges {
			if m.In == e.Letter {
				c.Edges = append(c.Edges, api.Edge{From: m.From*a.States + e.From, Letter: m.Out, To: m.To*a.States + e.To})
			}
		}
	}
	return c
}

// plainMerged is the merged automaton of P6.11: it tries all words of at most depth letters.
func plainMerged(a api.Automaton, depth int) api.Automaton {
	c := plainCanonical(a)
	var views []string
	class := make([]int, c.States)
	for s := range class {
		view := ""
		for _, w := range plainWordsTo(c.Letters, depth) {
			view += fmt.Sprint(plainPath(c, ints(s), w))
		}
		class[s] = slices.Index(views, view)
		if class[s] < 0 {
			class[s] = len(views)
			views = append(views, view)
		}
	}
	m := api.Automaton{Letters: c.Letters, States: len(views), Start: ints(class[0])}
	for _, s := range c.Accept {
		m.Accept = append(m.Accept, class[s])
	}
	for _, e := range c.Edges {
		m.Edges = append(m.Edges, api.Edge{From: class[e.From], Letter: e.Letter, To: class[e.To]})
	}
	return m
}

func plainMerge(a api.Automaton, depth int) api.Automaton {
	return plainCanonical(plainMerged(a, depth))
}

// plainNext returns the configurations that one step with the rule leads to.
func plainNext(p api.Protocol, r api.Rule, u []int) [][]int {
	var all [][]int
	for i := range u {
		left, right := i-1, i+1
		if p.Topology == api.Ring {
			left, right = (i+len(u)-1)%len(u), (i+1)%len(u)
		} else if right == len(u) {
			right = -1
		}
		if u[i] != r.From {
			continue
		}
		v := slices.Clone(u)
		v[i] = r.To
		if r.Kind == api.Pass {
			partner := map[int]int{api.ToLeft: left, api.ToRight: right}[r.Direction]
			if partner == -1 || partner == i || u[partner] != r.PartnerFrom {
				continue
			}
			v[partner] = r.PartnerTo
		} else {
			fits := func(near int, states []int) bool {
				return len(states) == 0 || near != -1 && slices.Contains(states, u[near])
			}
			if !fits(left, r.Left) || !fits(right, r.Right) || r.At == api.AtFirst && i > 0 || r.At == api.AtLast && i < len(u)-1 {
				continue
			}
		}
		all = append(all, v)
	}
	slices.SortFunc(all, slices.Compare[[]int])
	return slices.CompactFunc(all, slices.Equal[[]int])
}

func plainInitial(p api.Protocol, q api.Property, w []int) bool {
	starts := p.Initial
	if len(q.Start) > 0 {
		starts = q.Start
	}
	for i, x := range w {
		if i == 0 && len(p.Leader) > 0 {
			if !slices.Contains(p.Leader, x) {
				return false
			}
		} else if !slices.Contains(starts, x) {
			return false
		}
	}
	return len(w) > 0
}

func plainBad(p api.Protocol, q api.Property, w []int) bool {
	for _, c := range q.Bad {
		found := 0
		for _, x := range w {
			if slices.Contains(c.States, x) {
				found++
			}
		}
		if found < c.Least {
			return false
		}
	}
	if len(q.Adjacent) == 0 {
		return true
	}
	for i := range w {
		right := i + 1
		if p.Topology == api.Ring {
			right = (i + 1) % len(w)
		}
		if right < len(w) && w[i] == q.Adjacent[0] && w[right] == q.Adjacent[1] {
			return true
		}
	}
	return false
}
