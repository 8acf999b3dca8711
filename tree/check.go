package tree

import (
	"slices"

	"familycheck/api"
)

// CheckRule reports whether no step with the rule leads out of the language of a: see P7.10.
func CheckRule(p api.Protocol, q api.Property, a api.TreeAutomaton, rule int) bool {
	if Check(p, q) != api.OK || !isBelow(rule, len(p.Rules)) {
		return false
	}
	t, ok := certificate(p, a)
	return ok && stepsFrom(p.Rules[rule:rule+1], t, false).isWithin(t)
}

// CheckAutomaton reports whether a shows that the property holds for all sizes: see P7.10.
func CheckAutomaton(p api.Protocol, q api.Property, a api.TreeAutomaton) bool {
	if Check(p, q) != api.OK {
		return false
	}
	t, ok := certificate(p, a)
	if !ok || !initialTrees(p, q).network().isWithin(t) || !t.network().isWithin(badTrees(p, q).complement()) {
		return false
	}
	return stepsFrom(p.Rules, t, false).isWithin(t)
}

// certificate returns a complete deterministic automaton with the letters of p; false if a is none. States that no tree has are left out.
func certificate(p api.Protocol, a api.TreeAutomaton) (table, bool) {
	if Validate(a) != api.OK || a.Letters != len(p.States) || a.States < 1 || a.States > api.MaxForward {
		return table{}, false
	}
	if len(a.Leaves) != a.Letters || len(a.Branches) != a.Letters*a.States*a.States {
		return table{}, false
	}
	// As many transitions as there are places for them: there is one in each place, or none in some.
	n := networkOf(a)
	if slices.Contains(n.leaf, set{}) || slices.Contains(n.branch, set{}) {
		return table{}, false
	}
	t, _ := tableOf(n.subsets(), nil)
	return t, true
}
