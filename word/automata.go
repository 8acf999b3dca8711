package word

import (
	"familycheck/api"
)

// Accepts reports whether the language of a has w.
func Accepts(a api.Automaton, w []int) (bool, api.Errno) {
	if e := Validate(a); e != api.OK {
		return false, e
	}
	if !areBelow(w, a.Letters) {
		return false, api.ErrArg
	}
	return networkOf(reader(a)).accepts(w), api.OK
}

// minimal returns the canonical automaton of a valid automaton, or the ErrLarge of Minimal.
func minimal(a api.Automaton) (table, api.Errno) {
	t, e := networkOf(reader(a)).subsets(api.MaxMachine)
	if e != api.OK {
		return table{}, e
	}
	return t.canonical(), api.OK
}

// minimals returns the canonical automata of two automata, or the errors of P6.1 and then that of Minimal.
func minimals(a, b api.Automaton) (table, table, api.Errno) {
	if e := machinesError(reader(a), reader(b)); e != api.OK {
		return table{}, table{}, e
	}
	first, e := minimal(a)
	if e != api.OK {
		return table{}, table{}, e
	}
	second, e := minimal(b)
	if e != api.OK {
		return table{}, table{}, e
	}
	return first, second, api.OK
}

// Minimal returns the canonical automaton of the language of a.
func Minimal(a api.Automaton) (api.Automaton, api.Errno) {
	if e := Validate(a); e != api.OK {
		return api.Automaton{}, e
	}
	t, e := minimal(a)
	if e != api.OK {
		return api.Automaton{}, e
	}
	return t.automaton(), api.OK
}

// Complement returns the canonical automaton of the words that a does not accept.
func Complement(a api.Automaton) (api.Automaton, api.Errno) {
	if e := Validate(a); e != api.OK {
		return api.Automaton{}, e
	}
	t, e := minimal(a)
	if e != api.OK {
		return api.Automaton{}, e
	}
	for state, accepts := range t.accept {
		t.accept[state] = !accepts
	}
	return t.automaton(), api.OK
}

// Union returns the canonical automaton of the words that a or b accepts.
func Union(a, b api.Automaton) (api.Automaton, api.Errno) {
	return combine(a, b, either)
}

// Intersect returns the canonical automaton of the words that both a and b accept.
func Intersect(a, b api.Automaton) (api.Automaton, api.Errno) {
	return combine(a, b, both)
}

func combine(a, b api.Automaton, accepts func(x, y bool) bool) (api.Automaton, api.Errno) {
	first, second, e := minimals(a, b)
	if e != api.OK {
		return api.Automaton{}, e
	}
	if first.states()*second.states() > api.MaxMachine {
		return api.Automaton{}, api.ErrLarge
	}
	return product(first, second, accepts).canonical().automaton(), api.OK
}

// Included reports whether b accepts every word of a; if not, it returns the first of the shortest words that show it.
func Included(a, b api.Automaton) (bool, []int, api.Errno) {
	first, second, e := minimals(a, b)
	if e != api.OK {
		return false, nil, e
	}
	w, found := product(first, second, firstOnly).shortest()
	return !found, w, api.OK
}

// Same reports whether a and b have the same language.
func Same(a, b api.Automaton) (bool, api.Errno) {
	first, second, e := minimals(a, b)
	if e != api.OK {
		return false, e
	}
	return first.isEqual(second), api.OK
}
