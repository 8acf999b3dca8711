package invariant

import (
	"slices"

	"familycheck/api"
	"familycheck/protocol"
)

// InitialFailure returns the index of the first clause of l that does not hold in some initial configuration, or -1.
func InitialFailure(p api.Protocol, q api.Property, l []api.Clause) (int, api.Errno) {
	if errno := Check(p, q); errno != api.OK {
		return 0, errno
	}
	if errno := listsError(p, l); errno != api.OK {
		return 0, errno
	}
	starts := initialExamples(p, q, Rank(l))
	return slices.IndexFunc(l, func(c api.Clause) bool { return failsIn(c, starts) }), api.OK
}

// initialExamples returns those of the examples that are initial configurations.
func initialExamples(p api.Protocol, q api.Property, rank int) []api.Element {
	starts, _ := protocol.Starts(p, q)
	return slices.DeleteFunc(examples(p, rank), func(e api.Element) bool { return e.Value != 0 || !crowdOf(e).isWithin(starts) })
}

// failsIn reports whether c does not hold in one of the configurations.
func failsIn(c api.Clause, list []api.Element) bool {
	return slices.ContainsFunc(list, func(e api.Element) bool { return !holds(c, e) })
}

// StepFailure returns the index of the first clause of l that has a failure under the rule, and its smallest failure; -1 if there is none.
func StepFailure(p api.Protocol, rule int, l, assumed []api.Clause) (int, api.Element, api.Errno) {
	if errno := monadicError(p); errno != api.OK {
		return 0, api.Element{}, errno
	}
	if rule < 0 || rule >= len(p.Rules) {
		return 0, api.Element{}, api.ErrRule
	}
	if errno := listsError(p, l, assumed); errno != api.OK {
		return 0, api.Element{}, errno
	}
	index, failure := firstFailure(p, p.Rules[rule], l, assumed)
	return index, failure, api.OK
}

// firstFailure is StepFailure without errors. Once a clause has a failure, only the clauses before it matter.
func firstFailure(p api.Protocol, r api.Rule, l, assumed []api.Clause) (int, api.Element) {
	index, failure := -1, api.Element{}
	both := joined(l, assumed)
	first := l
	for _, e := range examples(p, Rank(both)) {
		next, ok := step(r, e)
		if !ok || !allHold(both, e) {
			continue
		}
		if i := slices.IndexFunc(first, func(c api.Clause) bool { return !holds(c, next) }); i >= 0 {
			index, failure, first = i, e, l[:i]
		}
	}
	return index, failure
}

// joined returns the clauses of both lists. The first list keeps no room behind it, so that nothing is written there.
func joined(l, assumed []api.Clause) []api.Clause {
	return append(l[:len(l):len(l)], assumed...)
}

// BadModel returns the smallest bad configuration in which all clauses of l hold, and true; false if there is none.
func BadModel(p api.Protocol, q api.Property, l []api.Clause) (api.Element, bool, api.Errno) {
	if errno := Check(p, q); errno != api.OK {
		return api.Element{}, false, errno
	}
	if errno := listsError(p, l); errno != api.OK {
		return api.Element{}, false, errno
	}
	rank := Rank(l)
	for _, count := range q.Bad {
		rank = max(rank, count.Least)
	}
	for _, e := range examples(p, rank) {
		if isBad(q, e) && allHold(l, e) {
			return e, true, api.OK
		}
	}
	return api.Element{}, false, api.OK
}

// isBad reports whether e, all of whose processes are correct, is a bad configuration.
func isBad(q api.Property, e api.Element) bool {
	for _, count := range q.Bad {
		found := 0
		for _, state := range count.States {
			found += e.Counts[state]
		}
		if found < count.Least {
			return false
		}
	}
	return true
}

// CheckClauses reports whether the clauses of l show, with the assumed ones, that the property holds for all sizes: see P8.9. BadModel refuses both lists together if they are too many.
func CheckClauses(p api.Protocol, q api.Property, l, assumed []api.Clause) bool {
	if index, errno := InitialFailure(p, q, l); errno != api.OK || index >= 0 {
		return false
	}
	for rule := range p.Rules {
		if index, _, errno := StepFailure(p, rule, l, assumed); errno != api.OK || index >= 0 {
			return false
		}
	}
	_, found, errno := BadModel(p, q, joined(l, assumed))
	return errno == api.OK && !found
}

// Entails reports whether c holds in every configuration in which all clauses of l hold.
func Entails(p api.Protocol, l []api.Clause, c api.Clause) (bool, api.Errno) {
	if errno := monadicError(p); errno != api.OK {
		return false, errno
	}
	last := []api.Clause{c}
	if errno := listsError(p, l, last); errno != api.OK {
		return false, errno
	}
	fails := func(e api.Element) bool { return allHold(l, e) && !holds(c, e) }
	return !slices.ContainsFunc(examples(p, Rank(joined(l, last))), fails), api.OK
}
