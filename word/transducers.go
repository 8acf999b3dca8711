package word

import (
	"slices"

	"familycheck/api"
)

// maxPairs limits the pairs of a state of a transducer and one of an automaton in Image.
const maxPairs = 4000

// Relates reports whether t relates u and v.
func Relates(t api.Transducer, u, v []int) (bool, api.Errno) {
	if e := ValidateTransducer(t); e != api.OK {
		return false, e
	}
	if !areBelow(u, t.Letters) || !areBelow(v, t.Letters) {
		return false, api.ErrArg
	}
	if len(u) != len(v) {
		return false, api.OK
	}
	labels := make([]int, len(u))
	for i := range labels {
		labels[i] = u[i]*t.Letters + v[i]
	}
	return networkOf(rewriter(t)).accepts(labels), api.OK
}

// Inverse relates v and u if t relates u and v.
func Inverse(t api.Transducer) (api.Transducer, api.Errno) {
	if e := ValidateTransducer(t); e != api.OK {
		return api.Transducer{}, e
	}
	back := api.Transducer{Letters: t.Letters, States: t.States, Start: slices.Clone(t.Start), Accept: slices.Clone(t.Accept)}
	for _, m := range t.Moves {
		back.Moves = append(back.Moves, api.Move{From: m.From, In: m.Out, Out: m.In, To: m.To})
	}
	return back, api.OK
}

// Compose relates u and w if t relates u to some word that the second transducer relates to w. Its states are the pairs of states.
func Compose(t, u api.Transducer) (api.Transducer, api.Errno) {
	if e := machinesError(rewriter(t), rewriter(u)); e != api.OK {
		return api.Transducer{}, e
	}
	if t.States*u.States > api.MaxMachine {
		return api.Transducer{}, api.ErrLarge
	}
	first, second := networkOf(rewriter(t)), networkOf(rewriter(u))
	c := api.Transducer{Letters: t.Letters, States: t.States * u.States}
	start, accept := newSet(c.States), newSet(c.States)
	start.addPairs(first.start, second.start, u.States)
	accept.addPairs(first.accept, second.accept, u.States)
	c.Start, c.Accept = slices.Collect(start.members()), slices.Collect(accept.members())
	for from := range c.States {
		for in := range c.Letters {
			for out := range c.Letters {
				for to := range composed(first, second, c.Letters, from, in, out).members() {
					c.Moves = append(c.Moves, api.Move{From: from, In: in, Out: out, To: to})
				}
			}
		}
	}
	return c, api.OK
}

// addPairs adds the numbers of the pairs of a and b, where the second parts are below count.
func (s set) addPairs(a, b set, count int) {
	for i := range a.members() {
		for j := range b.members() {
			s.add(i*count + j)
		}
	}
}

// composed returns the pairs that the pair from leads to if in is read, out is written, and any letter lies in between.
func composed(t, u network, letters, from, in, out int) set {
	next := newSet(t.states * u.states)
	for middle := range letters {
		next.addPairs(t.to(from/u.states, in*letters+middle), u.to(from%u.states, middle*letters+out), u.states)
	}
	return next
}

// Image returns the canonical automaton of the words that t relates words of a to.
func Image(t api.Transducer, a api.Automaton) (api.Automaton, api.Errno) {
	if e := machinesError(rewriter(t), reader(a)); e != api.OK {
		return api.Automaton{}, e
	}
	if t.States*a.States > maxPairs {
		return api.Automaton{}, api.ErrLarge
	}
	image, e := imageOf(networkOf(rewriter(t)), networkOf(reader(a)), api.MaxMachine)
	if e != api.OK {
		return api.Automaton{}, e
	}
	return image.canonical().automaton(), api.OK
}

// imageOf returns the automaton whose states are the subsets of the pairs of a state of t and a state of a that P6.7 describes. A subset has one part for each state of t: the states of a that it is paired with. ErrLarge if there are more than most.
func imageOf(t, a network, most int) (table, api.Errno) {
	letters := a.labels
	width := setWidth(a.states)
	part := func(s set, state int) set { return s[state*width : (state+1)*width] }
	first := make(set, t.states*width)
	for state := range t.start.members() {
		part(first, state).addAll(a.start)
	}
	after := func(key string) []string {
		s := setOf(key)
		next := make([]set, letters)
		for out := range next {
			next[out] = make(set, len(s))
		}
		for state := range t.states {
			if part(s, state).isEmpty() {
				continue
			}
			for in := range letters {
				read := a.after(part(s, state), in)
				for out := range letters {
					for to := range t.to(state, in*letters+out).members() {
						part(next[out], to).addAll(read)
					}
				}
			}
		}
		return keys(next)
	}
	accepts := func(key string) bool {
		s := setOf(key)
		for state := range t.accept.members() {
			if part(s, state).meets(a.accept) {
				return true
			}
		}
		return false
	}
	return tableOf(letters, first.key(), after, accepts, most)
}

func keys(list []set) []string {
	all := make([]string, len(list))
	for i, s := range list {
		all[i] = s.key()
	}
	return all
}
