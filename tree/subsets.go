package tree

import (
	"familycheck/api"
)

const (
	manySubsets = 256  // with so many, the search looks for subsets that are alike
	maxTests    = 1000 // with more tests, looking for them takes too long
)

// subsets is the evaluator whose values are the subsets of n.
func (n network) subsets() evaluator[set] {
	return evaluator[set]{
		letters: n.letters,
		leaf:    func(letter int) set { return n.leaf[letter] },
		branch:  n.after,
		accepts: n.accept.meets,
	}
}

// canonical returns the canonical automaton of the language of n; ErrLarge if it has more than most states. There may be far more subsets: then some of them show early that there are too many states, or many of them are alike.
func (n network) canonical(most int) (table, api.Errno) {
	form := func(s set) set { return s }
	v := n.subsets()
	v.branch = func(letter int, first, second set) set { return form(n.after(letter, first, second)) }
	examined, formed := most, false
	t, ok := tableOf(v, func(known []set) bool {
		if len(known) < 2*examined {
			return false
		}
		examined = len(known)
		if n.differ(known, most) {
			return true
		}
		if examined >= manySubsets && !formed {
			form, formed = n.oneForm(), true
		}
		return false
	})
	if !ok {
		return table{}, api.ErrLarge
	}
	t = t.canonical()
	if t.states() > most {
		return table{}, api.ErrLarge
	}
	return t, api.OK
}

// around returns the tests of the contexts that are larger by one node than that of a test: a branch with one of the given subsets as its other child. A context is a tree in which a subtree is left open; its test is the set of the states of the subtree with which it is accepted. So it accepts a subset that meets its test.
func (n network) around(test set, beside []set) []set {
	var list []set
	for letter := range n.letters {
		for _, s := range beside {
			var first, second set
			for i := range n.states {
				if n.after(letter, setOf(i), s).meets(test) {
					first = first.with(setOf(i))
				}
				if n.after(letter, s, setOf(i)).meets(test) {
					second = second.with(setOf(i))
				}
			}
			list = append(list, first, second)
		}
	}
	return list
}

// differ reports whether some contexts tell more than most of the known subsets apart. Not all are tried: they have only the first of the subsets beside the path to the open place.
func (n network) differ(known []set, most int) bool {
	beside := known[:min(len(known), most)]
	class, count := numbered(len(known), func(i int) bool { return known[i].meets(n.accept) })
	tests := []set{n.accept}
	tried := map[set]bool{n.accept: true}
	for at := 0; at < len(tests) && count <= most; at++ {
		for _, test := range n.around(tests[at], beside) {
			if tried[test] {
				continue
			}
			tried[test] = true
			finer, more := numbered(len(known), func(i int) [2]int {
				if known[i].meets(test) {
					return [2]int{class[i], 1}
				}
				return [2]int{class[i], 0}
			})
			if more > count {
				class, count = finer, more
				tests = append(tests, test)
			}
		}
	}
	return count > most
}

// oneForm returns a function that gives the same form to subsets that meet the same tests of contexts with single states beside the path. No context tells these apart, since its test is a union of such tests. If there are too many tests, all subsets stay as they are.
func (n network) oneForm() func(s set) set {
	var beside []set
	for i := range n.states {
		beside = append(beside, setOf(i))
	}
	tests := []set{n.accept}
	all := n.accept
	tried := map[set]bool{n.accept: true}
	for at := 0; at < len(tests); at++ {
		if len(tests) > maxTests {
			return func(s set) set { return s }
		}
		for _, test := range n.around(tests[at], beside) {
			if !tried[test] {
				tried[test] = true
				tests = append(tests, test)
				all = all.with(test)
			}
		}
	}
	// A state that is only in tests that s meets changes nothing.
	return func(s set) set {
		form := all
		for _, test := range tests {
			if !test.meets(s) {
				form = form.without(test)
			}
		}
		return form
	}
}
