package tree

import (
	"familycheck/api"
)

// Merge returns the canonical automaton of the merged automaton of a: see P7.8.
func Merge(a api.TreeAutomaton, depth int) (api.TreeAutomaton, api.Errno) {
	if e := Validate(a); e != api.OK {
		return api.TreeAutomaton{}, e
	}
	if !isDepth(depth) {
		return api.TreeAutomaton{}, api.ErrArg
	}
	t, e := minimal(a)
	if e != api.OK {
		return api.TreeAutomaton{}, e
	}
	t, e = fewSubsets(t.merged(depth))
	if e != api.OK {
		return api.TreeAutomaton{}, e
	}
	return t.automaton(), api.OK
}

func isDepth(depth int) bool { return depth >= 0 && depth <= api.MaxDepth }

// merged joins the states of a canonical automaton that are alike at the depth.
func (t table) merged(depth int) network { return t.joined(t.classes(depth)) }

// Forward returns the language L(k) of P7.9 and whether it is the last one.
func Forward(p api.Protocol, q api.Property, depth, rounds int) (api.TreeAutomaton, bool, api.Errno) {
	if e := forwardError(p, q, depth, rounds); e != api.OK {
		return api.TreeAutomaton{}, false, e
	}
	t, done, e := forward(p, q, depth, rounds)
	if e != api.OK {
		return api.TreeAutomaton{}, false, e
	}
	return t.automaton(), done, api.OK
}

func forwardError(p api.Protocol, q api.Property, depth, rounds int) api.Errno {
	if e := Check(p, q); e != api.OK {
		return e
	}
	if !isDepth(depth) || rounds > api.MaxRounds {
		return api.ErrArg
	}
	return api.OK
}

// forward is Forward without the errors of arguments. No automaton of initial configurations has more than four states.
func forward(p api.Protocol, q api.Property, depth, rounds int) (table, bool, api.Errno) {
	reached, e := initialTrees(p, q).merged(depth).canonical(api.MaxForward)
	if e != api.OK {
		return table{}, false, e
	}
	for k := 0; ; k++ {
		next, e := grow(p, reached, depth)
		if e != api.OK {
			return table{}, false, e
		}
		if done := next.isEqual(reached); done || k >= rounds {
			return reached, done, api.OK
		}
		reached = next
	}
}

// grow returns the language after that of reached.
func grow(p api.Protocol, reached table, depth int) (table, api.Errno) {
	for i := range p.Rules {
		if _, e := stepsFrom(p.Rules[i:i+1], reached, false).canonical(api.MaxForward); e != api.OK {
			return table{}, e
		}
	}
	all, e := stepsFrom(p.Rules, reached, true).canonical(api.MaxForward)
	if e != api.OK {
		return table{}, e
	}
	return all.merged(depth).canonical(api.MaxForward)
}

// Prove returns Holds and an automaton that shows it if the iteration finds one at some depth, and otherwise Open.
func Prove(p api.Protocol, q api.Property, depth, rounds int) (int, api.TreeAutomaton, api.Errno) {
	if e := forwardError(p, q, depth, rounds); e != api.OK {
		return 0, api.TreeAutomaton{}, e
	}
	good := badTrees(p, q).complement()
	for d := range depth + 1 {
		t, done, e := forward(p, q, d, rounds)
		if e == api.OK && done && t.network().isWithin(good) {
			return api.Holds, t.automaton(), api.OK
		}
	}
	return api.Open, api.TreeAutomaton{}, api.OK
}
