package word

import (
	"slices"

	"familycheck/api"
)

// CheckRule reports whether no step with the rule leads out of the language of a: see P6.13.
func CheckRule(p api.Protocol, q api.Property, a api.Automaton, rule int) bool {
	if Check(p, q) != api.OK || !isBelow(rule, len(p.Rules)) {
		return false
	}
	t, ok := certificate(p, a)
	return ok && isClosed(t, p, p.Rules[rule])
}

// CheckAutomaton reports whether a shows that the property holds for all sizes: see P6.13.
func CheckAutomaton(p api.Protocol, q api.Property, a api.Automaton) bool {
	if Check(p, q) != api.OK {
		return false
	}
	t, ok := certificate(p, a)
	if !ok || !product(initialWords(p, q), t, firstOnly).isEmpty() || !product(badWords(p, q), t, both).isEmpty() {
		return false
	}
	return !slices.ContainsFunc(p.Rules, func(r api.Rule) bool { return !isClosed(t, p, r) })
}

// certificate returns a complete deterministic automaton with the letters of p; false if a is none.
func certificate(p api.Protocol, a api.Automaton) (table, bool) {
	if Validate(a) != api.OK || a.Letters != len(p.States) || a.States < 1 || a.States > api.MaxAutomaton {
		return table{}, false
	}
	if len(a.Start) != 1 || len(a.Edges) != a.States*a.Letters {
		return table{}, false
	}
	next := slices.Repeat([]int{-1}, len(a.Edges))
	for _, x := range a.Edges {
		place := x.From*a.Letters + x.Letter
		if next[place] >= 0 {
			return table{}, false
		}
		next[place] = x.To
	}
	after := func(state int) []int { return next[state*a.Letters : (state+1)*a.Letters] }
	t, _ := tableOf(a.Letters, a.Start[0], after, func(state int) bool { return slices.Contains(a.Accept, state) }, unlimited)
	return t, true
}

// isClosed reports whether every word that the rule leads to from a word of t is one of t. It goes along both words at once: with a state of the relation, and the states of t after each.
func isClosed(t table, p api.Protocol, r api.Rule) bool {
	steps := networkOf(rewriter(relationOf(p, []api.Rule{r})))
	after := func(x [3]int) [][3]int {
		var list [][3]int
		for before, first := range t.after(x[1]) {
			for later, second := range t.after(x[2]) {
				for state := range steps.to(x[0], before*t.letters+later).members() {
					list = append(list, [3]int{state, first, second})
				}
			}
		}
		return list
	}
	for start := range steps.start.members() {
		list, _, _ := explore([3]int{start}, after, unlimited)
		leaves := func(x [3]int) bool { return steps.accept.has(x[0]) && t.accept[x[1]] && !t.accept[x[2]] }
		if slices.ContainsFunc(list, leaves) {
			return false
		}
	}
	return true
}
