package word

import (
	"slices"

	"familycheck/api"
)

// maxLength is the length of the longest words that Words lists.
const maxLength = 6

// Shortest returns the shortest word that a accepts, of several the first; false if there is none.
func Shortest(a api.Automaton) ([]int, bool, api.Errno) {
	if e := Validate(a); e != api.OK {
		return nil, false, e
	}
	n := networkOf(reader(a))
	// A shortest word leads through no state twice, so it has fewer letters than there are states.
	ways := []set{n.accept}
	for len(ways) < n.states && !n.start.meets(ways[len(ways)-1]) {
		ways = append(ways, n.before(ways[len(ways)-1]))
	}
	list := n.words(ways, 1)
	if len(list) == 0 {
		return nil, false, api.OK
	}
	return list[0], true, api.OK
}

// Words returns the words of a length that a accepts in ascending order.
func Words(a api.Automaton, length int) ([][]int, api.Errno) {
	if e := Validate(a); e != api.OK {
		return nil, e
	}
	if length < 0 || length > maxLength {
		return nil, api.ErrArg
	}
	n := networkOf(reader(a))
	ways := []set{n.accept}
	for range length {
		ways = append(ways, n.before(ways[len(ways)-1]))
	}
	return n.words(ways, unlimited), api.OK
}

// before returns the states from which some label leads to a state of s.
func (n network) before(s set) set {
	list := newSet(n.states)
	for state := range n.states {
		for label := range n.labels {
			if n.to(state, label).meets(s) {
				list.add(state)
				break
			}
		}
	}
	return list
}

// words returns the first words, most at most, of one length that n accepts, in ascending order. The states of ways[k] are those from which words of k letters are accepted; the last is for the whole length. So each letter that is tried leads to a word.
func (n network) words(ways []set, most int) [][]int {
	var list [][]int
	var extend func(w []int, from set)
	extend = func(w []int, from set) {
		missing := len(ways) - 1 - len(w)
		from.keep(ways[missing])
		if from.isEmpty() || len(list) >= most {
			return
		}
		if missing == 0 {
			list = append(list, slices.Clone(w))
			return
		}
		for label := range n.labels {
			extend(append(w, label), n.after(from, label))
		}
	}
	extend(nil, slices.Clone(n.start))
	return list
}
