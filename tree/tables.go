package tree

import (
	"slices"

	"familycheck/api"
)

// evaluator gives each tree a value, from the leaves up: it is a complete deterministic automaton whose states are the values.
type evaluator[K comparable] struct {
	letters int
	leaf    func(letter int) K
	branch  func(letter int, first, second K) K
	accepts func(value K) bool
}

// table is an evaluator whose values are numbers from 0 on. Each of them is the value of some tree.
type table struct {
	accept []bool      // by state
	leaf   []int       // by letter
	branch [][][]int32 // by letter and the states of both children
}

// tableOf numbers the values of trees in the order of the search of P7.3. False if stop says so of the values that are known so far; a nil stop never does.
func tableOf[K comparable](v evaluator[K], stop func(known []K) bool) (table, bool) {
	number := map[K]int{}
	var known []K
	find := func(value K) int {
		i, found := number[value]
		if !found {
			i = len(known)
			number[value] = i
			known = append(known, value)
		}
		return i
	}
	t := table{leaf: make([]int, v.letters), branch: make([][][]int32, v.letters)}
	for letter := range t.leaf {
		t.leaf[letter] = find(v.leaf(letter))
	}
	for before := 0; before < len(known); {
		round := len(known)
		for letter := range t.branch {
			t.branch[letter] = append(t.branch[letter], make([][]int32, round-before)...)
			for first, row := range t.branch[letter] {
				for second := len(row); second < round; second++ {
					row = append(row, int32(find(v.branch(letter, known[first], known[second]))))
				}
				t.branch[letter][first] = row
				if stop != nil && stop(known) {
					return table{}, false
				}
			}
		}
		before = round
	}
	t.accept = make([]bool, len(known))
	for i, value := range known {
		t.accept[i] = v.accepts(value)
	}
	return t, true
}

func (t table) letters() int { return len(t.leaf) }

func (t table) states() int { return len(t.accept) }

func (t table) after(letter, first, second int) int {
	return int(t.branch[letter][first][second])
}

// isEqual decides whether two canonical automata have the same language.
func (t table) isEqual(other table) bool {
	return slices.Equal(t.accept, other.accept) && slices.Equal(t.leaf, other.leaf) && slices.EqualFunc(t.branch, other.branch, func(a, b [][]int32) bool {
		return slices.EqualFunc(a, b, slices.Equal[[]int32])
	})
}

// classes gives the same number to states that are alike at a depth (P7.8), and returns how many numbers there are.
func (t table) classes(depth int) ([]int, int) {
	class, count := numbered(t.states(), func(state int) bool { return t.accept[state] })
	for range depth {
		finer, more := numbered(t.states(), func(state int) string { return t.view(class, state) })
		if more == count {
			break // no larger context tells more states apart
		}
		class, count = finer, more
	}
	return class, count
}

// view writes down the classes of a state and of all branches with it as a child.
func (t table) view(class []int, state int) string {
	text := make([]byte, 0, 2+4*t.letters()*t.states())
	write := func(state int) { text = append(text, byte(class[state]>>8), byte(class[state])) }
	write(state)
	for letter := range t.branch {
		for other := range t.accept {
			write(t.after(letter, state, other))
			write(t.after(letter, other, state))
		}
	}
	return string(text)
}

// numbered numbers the different views of so many states in the order in which they appear.
func numbered[V comparable](states int, view func(state int) V) ([]int, int) {
	number := map[V]int{}
	list := make([]int, states)
	for state := range list {
		v := view(state)
		i, known := number[v]
		if !known {
			i = len(number)
			number[v] = i
		}
		list[state] = i
	}
	return list, len(number)
}

// canonical returns the canonical automaton of the language of t. Larger contexts than there are states tell nothing more apart.
func (t table) canonical() table {
	class, count := t.classes(t.states())
	member := make([]int, count)
	for state, c := range class {
		member[c] = state
	}
	least, _ := tableOf(evaluator[int]{
		letters: t.letters(),
		leaf:    func(letter int) int { return class[t.leaf[letter]] },
		branch: func(letter, first, second int) int {
			return class[t.after(letter, member[first], member[second])]
		},
		accepts: func(c int) bool { return t.accept[member[c]] },
	}, nil)
	return least
}

// product runs two tables side by side; accepts says when both together accept.
func product(a, b table, accepts func(x, y bool) bool) table {
	t, _ := tableOf(evaluator[[2]int]{
		letters: a.letters(),
		leaf:    func(letter int) [2]int { return [2]int{a.leaf[letter], b.leaf[letter]} },
		branch: func(letter int, first, second [2]int) [2]int {
			return [2]int{a.after(letter, first[0], second[0]), b.after(letter, first[1], second[1])}
		},
		accepts: func(pair [2]int) bool { return accepts(a.accept[pair[0]], b.accept[pair[1]]) },
	}, nil)
	return t
}

func either(x, y bool) bool { return x || y }
func both(x, y bool) bool   { return x && y }

// complement changes what t accepts.
func (t table) complement() table {
	t.accept = slices.Clone(t.accept)
	for state, accepts := range t.accept {
		t.accept[state] = !accepts
	}
	return t
}

// automaton writes t as api has it.
func (t table) automaton() api.TreeAutomaton {
	a := api.TreeAutomaton{Letters: t.letters(), States: t.states()}
	for state, accepts := range t.accept {
		if accepts {
			a.Accept = append(a.Accept, state)
		}
	}
	for letter, to := range t.leaf {
		a.Leaves = append(a.Leaves, api.Leaf{Letter: letter, To: to})
	}
	for letter, rows := range t.branch {
		for first, row := range rows {
			for second, to := range row {
				a.Branches = append(a.Branches, api.Branch{Letter: letter, First: first, Second: second, To: int(to)})
			}
		}
	}
	return a
}
