package invariant

import (
	"slices"

	"familycheck/api"
)

// tally counts, while clauses are removed from a list, how many of those that are left fail in each example.
type tally struct {
	clauses  []api.Clause
	removed  []bool
	examples []api.Element
	failing  []int // by example
}

func newTally(p api.Protocol, clauses []api.Clause) *tally {
	t := &tally{clauses: clauses, removed: make([]bool, len(clauses)), examples: examples(p, Rank(clauses))}
	t.failing = make([]int, len(t.examples))
	for _, c := range clauses {
		for k, e := range t.examples {
			if !holds(c, e) {
				t.failing[k]++
			}
		}
	}
	return t
}

// models returns the numbers of the examples in which all clauses that are left hold.
func (t *tally) models() []int {
	var list []int
	for k, failing := range t.failing {
		if failing == 0 {
			list = append(list, k)
		}
	}
	return list
}

// remove removes the clause i, and returns the numbers of the examples in which it alone failed.
func (t *tally) remove(i int) []int {
	t.removed[i] = true
	var list []int
	for k, e := range t.examples {
		if holds(t.clauses[i], e) {
			continue
		}
		t.failing[k]--
		if t.failing[k] == 0 {
			list = append(list, k)
		}
	}
	return list
}

// isEntailed reports whether, in every example in which the clause i fails, another clause that is left does.
func (t *tally) isEntailed(i int) bool {
	for k, e := range t.examples {
		if t.failing[k] == 1 && !holds(t.clauses[i], e) {
			return false
		}
	}
	return true
}

// left returns those of the first clauses that are left, in new memory.
func (t *tally) left(first int) []api.Clause {
	var list []api.Clause
	for i, c := range t.clauses[:first] {
		if !t.removed[i] {
			list = append(list, copied(c))
		}
	}
	return list
}

// Reduce removes the clauses that the others entail, from the last one to the first.
func Reduce(p api.Protocol, l []api.Clause) ([]api.Clause, api.Errno) {
	if errno := monadicError(p); errno != api.OK {
		return nil, errno
	}
	if errno := listsError(p, l); errno != api.OK {
		return nil, errno
	}
	t := newTally(p, l)
	for i := range slices.Backward(l) {
		if t.isEntailed(i) {
			t.remove(i)
		}
	}
	return t.left(len(l)), api.OK
}

// Strengthen returns the largest sublist of l whose clauses hold in every initial configuration and have no failure: see P8.14.
func Strengthen(p api.Protocol, q api.Property, l, assumed []api.Clause) ([]api.Clause, api.Errno) {
	if errno := Check(p, q); errno != api.OK {
		return nil, errno
	}
	if errno := listsError(p, l, assumed); errno != api.OK {
		return nil, errno
	}
	starts := initialExamples(p, q, Rank(l))
	var kept []api.Clause
	for _, c := range l {
		if !failsIn(c, starts) {
			kept = append(kept, c)
		}
	}
	t := newTally(p, joined(kept, assumed))
	t.removeFailures(p.Rules, len(kept))
	return t.left(len(kept)), api.OK
}

// removeFailures removes those of the first clauses that have a failure, until none has. The steps from an example are examined once, when all clauses that are left hold in it: later there are fewer clauses that could fail.
func (t *tally) removeFailures(rules []api.Rule, first int) {
	work := t.models()
	for len(work) > 0 {
		e := t.examples[work[len(work)-1]]
		work = work[:len(work)-1]
		for _, r := range rules {
			if next, ok := step(r, e); ok {
				models := t.removeFailing(first, next)
				work = append(work, models...)
			}
		}
	}
}

// removeFailing removes those of the first clauses that do not hold in e, and returns the numbers of the examples in which all others hold only now.
func (t *tally) removeFailing(first int, e api.Element) []int {
	var models []int
	for i, c := range t.clauses[:first] {
		if !t.removed[i] && !holds(c, e) {
			models = append(models, t.remove(i)...)
		}
	}
	return models
}
