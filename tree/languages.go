package tree

import (
	"familycheck/api"
)

// minimal returns the canonical automaton of a valid automaton, or the ErrLarge of Minimal.
func minimal(a api.TreeAutomaton) (table, api.Errno) {
	return fewSubsets(networkOf(a))
}

// fewSubsets returns the canonical automaton of the language of n; ErrLarge if n has more than MaxAutomaton subsets.
func fewSubsets(n network) (table, api.Errno) {
	t, ok := tableOf(n.subsets(), func(known []set) bool { return len(known) > api.MaxAutomaton })
	if !ok {
		return table{}, api.ErrLarge
	}
	return t.canonical(), api.OK
}

// minimals returns the canonical automata of a list, or the errors of P7.1 and then that of Minimal.
func minimals(list ...api.TreeAutomaton) ([]table, api.Errno) {
	if e := automataError(list...); e != api.OK {
		return nil, e
	}
	tables := make([]table, len(list))
	for i, a := range list {
		t, e := minimal(a)
		if e != api.OK {
			return nil, e
		}
		tables[i] = t
	}
	return tables, api.OK
}

// Minimal returns the canonical automaton of the language of a.
func Minimal(a api.TreeAutomaton) (api.TreeAutomaton, api.Errno) {
	list, e := minimals(a)
	if e != api.OK {
		return api.TreeAutomaton{}, e
	}
	return list[0].automaton(), api.OK
}

// Complement returns the canonical automaton of the trees that a does not accept.
func Complement(a api.TreeAutomaton) (api.TreeAutomaton, api.Errno) {
	list, e := minimals(a)
	if e != api.OK {
		return api.TreeAutomaton{}, e
	}
	return list[0].complement().automaton(), api.OK
}

// Union returns the canonical automaton of the trees that some automaton of l accepts.
func Union(l ...api.TreeAutomaton) (api.TreeAutomaton, api.Errno) {
	return combine(either, l...)
}

// Intersect returns the canonical automaton of the trees that all automata of l accept.
func Intersect(l ...api.TreeAutomaton) (api.TreeAutomaton, api.Errno) {
	return combine(both, l...)
}

func combine(accepts func(x, y bool) bool, l ...api.TreeAutomaton) (api.TreeAutomaton, api.Errno) {
	list, e := minimals(l...)
	if e != api.OK {
		return api.TreeAutomaton{}, e
	}
	if len(list) == 0 {
		return api.TreeAutomaton{}, api.ErrArg
	}
	states := 1
	for _, t := range list {
		states *= t.states()
		if states > api.MaxAutomaton {
			return api.TreeAutomaton{}, api.ErrLarge
		}
	}
	all := list[0]
	for _, t := range list[1:] {
		all = product(all, t, accepts).canonical()
	}
	return all.automaton(), api.OK
}

// Included reports whether b accepts every tree that a accepts.
func Included(a, b api.TreeAutomaton) (bool, api.Errno) {
	list, e := minimals(a, b)
	if e != api.OK {
		return false, e
	}
	return list[0].network().isWithin(list[1]), api.OK
}

// Same reports whether a and b have the same language.
func Same(a, b api.TreeAutomaton) (bool, api.Errno) {
	list, e := minimals(a, b)
	if e != api.OK {
		return false, e
	}
	return list[0].isEqual(list[1]), api.OK
}

// network lays out a table with at most setSize states.
func (t table) network() network {
	class := make([]int, t.states())
	for state := range class {
		class[state] = state
	}
	return t.joined(class, t.states())
}

// joined lays out a table so that its states of one class become one.
func (t table) joined(class []int, count int) network {
	n := newNetwork(t.letters(), count)
	for state, accepts := range t.accept {
		if accepts {
			n.addAccept(class[state])
		}
	}
	for letter, to := range t.leaf {
		n.addLeaf(letter, class[to])
		for first := range t.accept {
			for second := range t.accept {
				n.addBranch(letter, class[first], class[second], class[t.after(letter, first, second)])
			}
		}
	}
	return n
}

// isWithin reports whether t accepts every tree that n accepts. It goes on along both at once: with a state of n and that of t that a tree can have.
func (n network) isWithin(t table) bool {
	type pair struct{ left, right int }
	met := make([]bool, n.states*t.states())
	var list []pair
	within := true
	meet := func(lefts set, right int) {
		for left := range lefts.members() {
			if at := left*t.states() + right; !met[at] {
				met[at] = true
				list = append(list, pair{left, right})
				within = within && (t.accept[right] || !n.accept.has(left))
			}
		}
	}
	for letter, s := range n.leaf {
		meet(s, t.leaf[letter])
	}
	for at := 0; at < len(list) && within; at++ {
		x := list[at]
		for _, y := range list[:at+1] {
			for letter := range n.leaf {
				meet(n.branch[n.place(letter, x.left, y.left)], t.after(letter, x.right, y.right))
				meet(n.branch[n.place(letter, y.left, x.left)], t.after(letter, y.right, x.right))
			}
		}
	}
	return within
}
