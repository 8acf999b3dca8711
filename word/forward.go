package word

import (
	"familycheck/api"
)

// Merge returns the canonical automaton of the merged automaton of a: see P6.11.
func Merge(a api.Automaton, depth int) (api.Automaton, api.Errno) {
	if e := Validate(a); e != api.OK {
		return api.Automaton{}, e
	}
	if !isDepth(depth) {
		return api.Automaton{}, api.ErrArg
	}
	t, e := minimal(a)
	if e != api.OK {
		return api.Automaton{}, e
	}
	t, e = t.merged(depth).subsets(api.MaxMachine)
	if e != api.OK {
		return api.Automaton{}, e
	}
	return t.canonical().automaton(), api.OK
}

func isDepth(depth int) bool { return depth >= 0 && depth <= api.MaxDepth }

// merged joins the states of a canonical automaton that no word of at most depth letters can tell apart.
func (t table) merged(depth int) network {
	class, count := t.classes(depth)
	n := newNetwork(t.letters, count)
	n.start.add(class[0])
	for state, accepts := range t.accept {
		if accepts {
			n.accept.add(class[state])
		}
		for letter, next := range t.after(state) {
			n.to(class[state], letter).add(class[next])
		}
	}
	return n
}

// Forward returns the language L(k) of P6.12 and whether it is the last one.
func Forward(p api.Protocol, q api.Property, depth, rounds int) (api.Automaton, bool, api.Errno) {
	if e := forwardError(p, q, depth, rounds); e != api.OK {
		return api.Automaton{}, false, e
	}
	t, done, e := forward(p, q, depth, rounds)
	if e != api.OK {
		return api.Automaton{}, false, e
	}
	return t.automaton(), done, api.OK
}

func forwardError(p api.Protocol, q api.Property, depth, rounds int) api.Errno {
	if e := Check(p, q); e != api.OK {
		return e
	}
	if !isDepth(depth) || rounds > api.MaxRounds {
		return api.ErrArg
	}
	return api.OK
}

// forward is Forward without the errors of arguments.
func forward(p api.Protocol, q api.Property, depth, rounds int) (table, bool, api.Errno) {
	steps := networkOf(rewriter(relationOf(p, p.Rules)))
	reached, e := abstract(initialWords(p, q), depth)
	if e != api.OK {
		return table{}, false, e
	}
	for k := 0; ; k++ {
		next, e := grow(steps, reached, depth)
		if e != api.OK {
			return table{}, false, e
		}
		if done := next.isEqual(reached); done || k >= rounds {
			return reached, done, api.OK
		}
		reached = next
	}
}

// grow returns the language after that of reached.
func grow(steps network, reached table, depth int) (table, api.Errno) {
	image, _ := imageOf(steps, networkOf(reader(reached.automaton())), unlimited)
	image, e := small(image)
	if e != api.OK {
		return table{}, e
	}
	all, e := small(product(reached, image, either))
	if e != api.OK {
		return table{}, e
	}
	return abstract(all, depth)
}

// abstract is Merge of the exact language for the iteration, whose automata are small.
func abstract(t table, depth int) (table, api.Errno) {
	t, _ = t.merged(depth).subsets(unlimited)
	return small(t)
}

// small returns the canonical automaton; ErrLarge if it has more than MaxForward states.
func small(t table) (table, api.Errno) {
	t = t.canonical()
	if t.states() > api.MaxForward {
		return table{}, api.ErrLarge
	}
	return t, api.OK
}

// Prove returns Holds and an automaton that shows it if the iteration finds one at some depth, and otherwise Open.
func Prove(p api.Protocol, q api.Property, depth, rounds int) (int, api.Automaton, api.Errno) {
	if e := forwardError(p, q, depth, rounds); e != api.OK {
		return 0, api.Automaton{}, e
	}
	bad := badWords(p, q)
	for d := range depth + 1 {
		t, done, e := forward(p, q, d, rounds)
		if e == api.OK && done && product(t, bad, both).isEmpty() {
			return api.Holds, t.automaton(), api.OK
		}
	}
	return api.Open, api.Automaton{}, api.OK
}
