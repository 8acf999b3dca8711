package word

import (
	"slices"

	"familycheck/api"
	"familycheck/protocol"
)

// InitialWords returns the canonical automaton of the initial configurations of all sizes.
func InitialWords(p api.Protocol, q api.Property) (api.Automaton, api.Errno) {
	if e := Check(p, q); e != api.OK {
		return api.Automaton{}, e
	}
	return initialWords(p, q).automaton(), api.OK
}

func initialWords(p api.Protocol, q api.Property) table {
	const none, some, wrong = 0, 1, 2 // the words: the empty one, initial ones, and those that begin as no initial one does
	starts, _ := protocol.Starts(p, q)
	leader := starts
	if len(p.Leader) > 0 {
		leader = p.Leader
	}
	after := func(before int) []int {
		list := make([]int, len(p.States))
		for letter := range list {
			list[letter] = wrong
			if before == none && slices.Contains(leader, letter) || before == some && slices.Contains(starts, letter) {
				list[letter] = some
			}
		}
		return list
	}
	t, _ := tableOf(len(p.States), none, after, func(x int) bool { return x == some }, unlimited)
	return t.canonical()
}

// BadWords returns the canonical automaton of the bad configurations of all sizes.
func BadWords(p api.Protocol, q api.Property) (api.Automaton, api.Errno) {
	if e := Check(p, q); e != api.OK {
		return api.Automaton{}, e
	}
	return badWords(p, q).automaton(), api.OK
}

// scan is what a word up to some letter has of a bad configuration.
type scan struct {
	counts [api.MaxCounts]int // for each count, its processes, up to as many as it demands
	begun  bool               // there is a letter
	opens  bool               // the first letter is the second one of Adjacent
	waits  bool               // the last letter is the first one of Adjacent
	found  bool               // there are neighbors as in Adjacent
}

func badWords(p api.Protocol, q api.Property) table {
	after := func(s scan) []scan {
		list := make([]scan, len(p.States))
		for letter := range list {
			list[letter] = s.with(q, letter)
		}
		return list
	}
	t, _ := tableOf(len(p.States), scan{}, after, func(s scan) bool { return s.isBad(p, q) }, unlimited)
	return t.canonical()
}

// with goes on to one more letter.
func (s scan) with(q api.Property, letter int) scan {
	for i, c := range q.Bad {
		if s.counts[i] < c.Least && slices.Contains(c.States, letter) {
			s.counts[i]++
		}
	}
	if len(q.Adjacent) == 0 {
		return s
	}
	s.found = s.found || s.waits && letter == q.Adjacent[1]
	s.waits = letter == q.Adjacent[0]
	s.opens = s.opens || !s.begun && letter == q.Adjacent[1]
	s.begun = true
	return s
}

// isBad reports whether the word is a bad configuration if it ends here. In a ring the first process is the right neighbor of the last one, also of itself.
func (s scan) isBad(p api.Protocol, q api.Property) bool {
	for i, c := range q.Bad {
		if s.counts[i] < c.Least {
			return false
		}
	}
	return len(q.Adjacent) == 0 || s.found || p.Topology == api.Ring && s.waits && s.opens
}
