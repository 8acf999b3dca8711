package word

import (
	"slices"
	"testing"

	"familycheck/api"
)

// P6.5: Shortest takes the shortest word and of several the first one.
func TestShortest(t *testing.T) {
	loop := []api.Edge{{}, {Letter: 1}}
	for i, x := range []struct {
		a     api.Automaton
		want  string
		found bool
	}{
		{far(3), "100", true},
		{doubled(far(3)), "100", true},
		{chain(2, 0), "", true},
		{chain(2, 4), "0000", true},
		{api.Automaton{Letters: 2}, "", false},
		{api.Automaton{Letters: 2, States: 1, Start: ints(0), Edges: loop}, "", false},
		{api.Automaton{Letters: 2, States: 1, Accept: ints(0), Edges: loop}, "", false},
		{api.Automaton{Letters: 2, States: 1, Start: ints(0), Accept: ints(0), Edges: loop}, "", true},
		{api.Automaton{Letters: 2, States: 2, Start: ints(0), Accept: ints(1), Edges: loop}, "", false},
		{api.Automaton{Letters: 2, States: 2, Start: ints(0, 1), Accept: ints(1), Edges: loop}, "", true},
		{oneOf(3, word("21"), word("12"), word("011"), word("20")), "12", true},
		{oneOf(3, word("21"), word("20"), word("2")), "2", true},
		// The first letter is that of a longer word, too.
		{oneOf(3, word("0111"), word("102"), word("110")), "102", true},
	} {
		w, found, e := Shortest(x.a)
		if !same(w, word(x.want)) || found != x.found || e != api.OK {
			t.Errorf("%d: %v, %v, error %d", i, w, found, e)
		}
	}
	if w, found, e := Shortest(far(300)); e != api.OK || !found || len(w) != 300 || w[0] != 1 || slices.Contains(w[1:], 1) {
		t.Error(w, found, e)
	}
	if w, found, e := Shortest(chain(8, 399)); e != api.OK || !found || len(w) != 399 {
		t.Error(w, found, e)
	}
}

// P6.5: the words of all lengths that Words takes, and of no others.
func TestWords(t *testing.T) {
	all := api.Automaton{Letters: 8, States: 1, Start: ints(0), Accept: ints(0)}
	for x := range 8 {
		all.Edges = append(all.Edges, api.Edge{Letter: x})
	}
	for length := range 7 {
		if got, e := Words(all, length); e != api.OK || !same(got, plainWords(8, length)) {
			t.Error(length, len(got), e)
		}
	}
	for _, length := range []int{minInt, -1, 7, 8, maxInt} {
		if got, e := Words(all, length); e != api.ErrArg || got != nil {
			t.Error(length, got, e)
		}
	}
	for i, x := range []struct {
		a      api.Automaton
		length int
		want   [][]int
	}{
		{far(2), 0, nil},
		{far(2), 1, nil},
		{far(2), 2, words("10", "11")},
		{far(2), 3, words("010", "011", "110", "111")},
		{doubled(far(2)), 3, words("010", "011", "110", "111")},
		{far(300), 6, nil},
		{far(6), 6, words("100000", "100001", "100010", "100011", "100100", "100101", "100110", "100111", "101000", "101001", "101010", "101011", "101100", "101101", "101110", "101111",
			"110000", "110001", "110010", "110011", "110100", "110101", "110110", "110111", "111000", "111001", "111010", "111011", "111100", "111101", "111110", "111111")},
		{oneOf(3, word("21"), word("12"), word("011"), word("20"), word("12")), 2, words("12", "20", "21")},
		{chain(2, 0), 0, [][]int{nil}},
		{chain(2, 0), 1, nil},
		{api.Automaton{Letters: 2}, 0, nil},
		{chain(8, 399), 6, nil},
	} {
		if got, e := Words(x.a, x.length); e != api.OK || !same(got, x.want) {
			t.Errorf("%d: %v, error %d", i, got, e)
		}
	}
}

// P6.5: many ways of one word are one word, and not one search each.
func TestManyWays(t *testing.T) {
	a := api.Automaton{Letters: 2, States: api.MaxMachine, Start: ints(0), Accept: ints(399)}
	for from := range 200 {
		for to := 200; to < 400; to++ {
			a.Start = append(a.Start, from)
			a.Edges = append(a.Edges, api.Edge{From: from, Letter: to % 2, To: to}, api.Edge{From: to, Letter: from % 2, To: from})
		}
	}
	list, e := Words(a, 5)
	if e != api.OK || len(list) != 16 {
		t.Error(len(list), e)
	}
	if w, found, e := Shortest(a); e != api.OK || !found || !same(w, ints(1)) {
		t.Error(w, found, e)
	}
}

// P6.5: small automata of all forms against lists of words.
func TestWordsPlainly(t *testing.T) {
	x := newSource(3)
	seen := map[bool]int{}
	for range 1500 {
		letters := x.between(1, 3)
		a, b := x.automaton(letters, 4), x.automaton(letters, 3)
		var list, missing [][]int
		for _, w := range plainWordsTo(letters, 4) {
			if plainAccepts(a, w) {
				list = append(list, w)
				if !plainAccepts(b, w) {
					missing = append(missing, w)
				}
			}
		}
		for length := range 5 {
			want := slices.DeleteFunc(slices.Clone(list), func(w []int) bool { return len(w) != length })
			if got, e := Words(a, length); e != api.OK || !same(got, want) {
				t.Fatalf("Words: %v, %d: %v", got, e, a)
			}
		}
		// A word without repeated states has at most three letters.
		w, found, e := Shortest(a)
		if e != api.OK || found != (len(list) > 0) || found && !same(w, list[0]) || !found && w != nil {
			t.Fatalf("Shortest: %v, %v, %d: %v", w, found, e, a)
		}
		yes, w, e := Included(a, b)
		seen[yes]++
		if e != api.OK || yes != plainIncluded(a, b) || yes && w != nil {
			t.Fatalf("Included: %v, %v, %d: %v, %v", yes, w, e, a, b)
		}
		if !yes && (len(w) <= 4 && !same(w, missing[0]) || len(w) > 4 && (len(missing) > 0 || !plainAccepts(a, w) || plainAccepts(b, w))) {
			t.Fatalf("Included: %v: %v, %v", w, a, b)
		}
	}
	if seen[true] < 300 || seen[false] < 300 {
		t.Error(seen)
	}
}

// P6.5: what Included returns, also where the shortest word is long.
func TestIncluded(t *testing.T) {
	two := oneOf(2, word("01"), word("10"))
	for i, x := range []struct {
		a, b api.Automaton
		yes  bool
		want []int
	}{
		{two, two, true, nil},
		{api.Automaton{Letters: 2}, two, true, nil},
		{two, api.Automaton{Letters: 2}, false, word("01")},
		{two, oneOf(2, word("01"), word("11")), false, word("10")},
		{far(2), far(1), false, word("10")},
		{far(1), far(2), false, word("1")},
		{far(8), far(7), false, word("10000000")},
		{chain(2, 0), two, false, nil},
		{cycle(6, 0), cycle(3, 0), true, nil},
		{cycle(3, 0), cycle(6, 0), false, word("000")},
		{cycle(400, 0), cycle(200, 0), true, nil},
	} {
		yes, w, e := Included(x.a, x.b)
		if yes != x.yes || !same(w, x.want) || e != api.OK {
			t.Errorf("%d: %v, %v, error %d", i, yes, w, e)
		}
	}
	// A length is 0 modulo 399 and 1 modulo 400: 399 times 399.
	others := accepted(t)(Complement(cycle(400, 1)))
	if yes, w, e := Included(cycle(399, 0), others); yes || e != api.OK || len(w) != 399*399 {
		t.Error(yes, len(w), e)
	}
}

// P6.5: Same compares languages and not automata.
func TestSame(t *testing.T) {
	for i, x := range []struct {
		a, b api.Automaton
		want bool
	}{
		{far(2), far(2), true},
		{far(2), far(3), false},
		{far(2), accepted(t)(Minimal(far(2))), true},
		{api.Automaton{Letters: 2}, api.Automaton{Letters: 2, States: 5, Start: ints(3), Accept: ints(4)}, true},
		{api.Automaton{Letters: 2}, chain(2, 0), false},
		{oneOf(2, word("01"), word("1")), oneOf(2, word("1"), word("01"), word("1")), true},
		{oneOf(2, word("01"), word("1")), oneOf(2, word("1"), word("10")), false},
		{cycle(400, 0), cycle(400, 1), false},
	} {
		got, e := Same(x.a, x.b)
		back, e2 := Same(x.b, x.a)
		if got != x.want || back != x.want || e != api.OK || e2 != api.OK {
			t.Errorf("%d: %v, %v, errors %d, %d", i, got, back, e, e2)
		}
	}
}
