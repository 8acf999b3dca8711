package word

import (
	"math"
	"slices"

	"familycheck/api"
)

// unlimited is the limit of a search that has none.
const unlimited = math.MaxInt

// explore lists what a search meets that begins with first and goes on with what comes after each, in the order in which they were met. Then next has, for each in this order, the places of what comes after it. False if it meets more than most.
func explore[K comparable](first K, after func(K) []K, most int) (list []K, next []int, ok bool) {
	place := map[K]int{first: 0}
	list = []K{first}
	at := 0
again:
	for _, x := range after(list[at]) {
		i, known := place[x]
		if !known {
			if len(list) == most {
				return nil, nil, false
			}
			i = len(list)
			place[x] = i
			list = append(list, x)
		}
		next = append(next, i)
	}
	at++
	if at < len(list) {
		goto again
	}
	return list, next, true
}

// table is a complete deterministic automaton. It starts in state 0, and its states are numbered as explore meets them, with the letters in ascending order.
type table struct {
	letters int
	accept  []bool // by state
	next    []int  // by state and letter
}

// tableOf returns the automaton whose states are what explore meets; after has one element for each letter. ErrLarge if there are more than most.
func tableOf[K comparable](letters int, first K, after func(K) []K, accepts func(K) bool, most int) (table, api.Errno) {
	list, next, ok := explore(first, after, most)
	if !ok {
		return table{}, api.ErrLarge
	}
	t := table{letters: letters, next: next, accept: make([]bool, len(list))}
	for i, x := range list {
		t.accept[i] = accepts(x)
	}
	return t, api.OK
}

// subsets returns the automaton whose states are the subsets of n. ErrLarge if there are more than most.
func (n network) subsets(most int) (table, api.Errno) {
	after := func(key string) []string {
		s := setOf(key)
		list := make([]string, n.labels)
		for label := range list {
			list[label] = n.after(s, label).key()
		}
		return list
	}
	accepts := func(key string) bool { return setOf(key).meets(n.accept) }
	return tableOf(n.labels, n.start.key(), after, accepts, most)
}

func (t table) states() int { return len(t.accept) }

// after returns the states that the letters lead to.
func (t table) after(state int) []int {
	return t.next[state*t.letters : (state+1)*t.letters]
}

func (t table) isEmpty() bool { return !slices.Contains(t.accept, true) }

// isEqual decides whether two canonical automata have the same language.
func (t table) isEqual(other table) bool {
	return slices.Equal(t.accept, other.accept) && slices.Equal(t.next, other.next)
}

// classes gives the same number to states that no word of at most depth letters can tell apart, and returns how many numbers there are.
func (t table) classes(depth int) ([]int, int) {
	class, count := numbered(t.states(), func(state int) bool { return t.accept[state] })
	for range depth {
		finer, more := numbered(t.states(), func(state int) [api.MaxLetters + 1]int {
			view := [api.MaxLetters + 1]int{class[state]}
			for letter, next := range t.after(state) {
				view[letter+1] = class[next]
			}
			return view
		})
		if more == count {
			break // no longer word tells more states apart
		}
		class, count = finer, more
	}
	return class, count
}

// numbered numbers the different views of so many states in the order in which they appear.
func numbered[V comparable](states int, view func(state int) V) ([]int, int) {
	number := map[V]int{}
	list := make([]int, states)
	for state := range list {
		v := view(state)
		i, known := number[v]
		if !known {
			i = len(number)
			number[v] = i
		}
		list[state] = i
	}
	return list, len(number)
}

// canonical returns the smallest automaton with the language of t. More letters than there are states tell nothing more apart.
func (t table) canonical() table {
	class, count := t.classes(t.states())
	member := make([]int, count)
	for state, c := range class {
		member[c] = state
	}
	after := func(c int) []int {
		var list []int
		for _, next := range t.after(member[c]) {
			list = append(list, class[next])
		}
		return list
	}
	least, _ := tableOf(t.letters, class[0], after, func(c int) bool { return t.accept[member[c]] }, unlimited)
	return least
}

// shortest returns the first of the shortest words that t accepts. That leads to the accepting state that is met first, on the way on which the states are met first.
func (t table) shortest() ([]int, bool) {
	state := slices.Index(t.accept, true)
	if state < 0 {
		return nil, false
	}
	met := make([]int, t.states()) // by state: the place in next where it is met
	for place := len(t.next) - 1; place >= 0; place-- {
		met[t.next[place]] = place
	}
	var w []int
	for state > 0 {
		w = append(w, met[state]%t.letters)
		state = met[state] / t.letters
	}
	slices.Reverse(w)
	return w, true
}

// product runs a and b side by side; accepts says when both together accept.
func product(a, b table, accepts func(x, y bool) bool) table {
	after := func(pair [2]int) [][2]int {
		list := make([][2]int, a.letters)
		second := b.after(pair[1])
		for letter, next := range a.after(pair[0]) {
			list[letter] = [2]int{next, second[letter]}
		}
		return list
	}
	t, _ := tableOf(a.letters, [2]int{}, after, func(pair [2]int) bool { return accepts(a.accept[pair[0]], b.accept[pair[1]]) }, unlimited)
	return t
}

func either(x, y bool) bool    { return x || y }
func both(x, y bool) bool      { return x && y }
func firstOnly(x, y bool) bool { return x && !y }

// automaton writes t as api has it.
func (t table) automaton() api.Automaton {
	a := api.Automaton{Letters: t.letters, States: t.states(), Start: []int{0}}
	for state, accepts := range t.accept {
		if accepts {
			a.Accept = append(a.Accept, state)
		}
		for letter, next := range t.after(state) {
			a.Edges = append(a.Edges, api.Edge{From: state, Letter: letter, To: next})
		}
	}
	return a
}
