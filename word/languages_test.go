package word

import (
	"testing"

	"familycheck/api"
	"familycheck/unfold"
)

// wordsOf returns the words of a length that an automaton accepts.
func wordsOf(t testing.TB, a api.Automaton, length int) [][]int {
	t.Helper()
	list, e := Words(a, length)
	if e != api.OK {
		t.Fatalf("error %d", e)
	}
	return list
}

// P6.10: the document's example, and leaders and starts.
func TestInitialWords(t *testing.T) {
	p := family(t, tokText)
	a := accepted(t)(InitialWords(p, property(t, p, "property q never count 2 tk")))
	want := api.Automaton{Letters: 2, States: 3, Start: ints(0), Accept: ints(1), Edges: []api.Edge{{To: 1}, {Letter: 1, To: 2}, {From: 1, To: 2}, {From: 1, Letter: 1, To: 1}, {From: 2, To: 2}, {From: 2, Letter: 1, To: 2}}}
	if !same(a, want) {
		t.Error(a)
	}
	const text = "protocol p\ntopology ring\nstates a b c\ninitial a b\n"
	for i, x := range []struct {
		text, start string
		states      int
		words       [4][][]int
	}{
		{text, "", 3, [4][][]int{nil, words("0", "1"), words("00", "01", "10", "11")}},
		{text, "start b ", 3, [4][][]int{nil, words("1"), words("11"), words("111")}},
		{text + "leader c\n", "", 3, [4][][]int{nil, words("2"), words("20", "21"), words("200", "201", "210", "211")}},
		{text + "leader b c\n", "start a ", 3, [4][][]int{nil, words("1", "2"), words("10", "20"), words("100", "200")}},
		{text + "leader a b c\n", "start a b ", 3, [4][][]int{nil, words("0", "1", "2"), words("00", "01", "10", "11", "20", "21")}},
	} {
		for _, topology := range []int{api.Line, api.Ring} {
			p := family(t, x.text)
			p.Topology = topology
			a := accepted(t)(InitialWords(p, property(t, p, "property q never "+x.start+"count 1 a")))
			if a.States != x.states {
				t.Errorf("%d: %v", i, a)
			}
			for length, want := range x.words {
				if got := wordsOf(t, a, length); !same(got, want) && (length < 3 || want != nil) {
					t.Errorf("%d: %v, not %v", i, got, want)
				}
			}
		}
	}
	// All letters: only the empty word is missing.
	p = family(t, "protocol p\ntopology line\nstates a b\ninitial a b\n")
	if a := accepted(t)(InitialWords(p, property(t, p, "property q never count 1 a"))); a.States != 2 || !same(a.Accept, ints(1)) {
		t.Error(a)
	}
}

// P6.10: counts, neighbors in lines and rings, and a process that is its own neighbor.
func TestBadWords(t *testing.T) {
	const ring = "protocol p\ntopology ring\nstates a b c\ninitial a b\n"
	line := replaced(t, ring, "topology ring", "topology line")
	for i, x := range []struct {
		text, bad string
		words     [3][][]int
	}{
		{ring, "count 1 a", [3][][]int{nil, words("0"), words("00", "01", "02", "10", "20")}},
		{line, "count 1 a", [3][][]int{nil, words("0"), words("00", "01", "02", "10", "20")}},
		{line, "count 2 a b", [3][][]int{nil, nil, words("00", "01", "10", "11")}},
		{line, "count 1 a count 1 a b", [3][][]int{nil, words("0"), words("00", "01", "02", "10", "20")}},
		{line, "count 1 a count 1 b", [3][][]int{nil, nil, words("01", "10")}},
		{line, "adjacent a b", [3][][]int{nil, nil, words("01")}},
		{ring, "adjacent a b", [3][][]int{nil, nil, words("01", "10")}},
		{line, "adjacent a a", [3][][]int{nil, nil, words("00")}},
		{ring, "adjacent a a", [3][][]int{nil, words("0"), words("00")}},
		{ring, "count 2 a adjacent a a", [3][][]int{nil, nil, words("00")}},
		{ring, "count 1 c adjacent a a", [3][][]int{nil, nil, nil}},
		{ring, "count 1 c adjacent c a", [3][][]int{nil, nil, words("02", "20")}},
	} {
		p := family(t, x.text)
		a := accepted(t)(BadWords(p, property(t, p, "property q never "+x.bad)))
		for length, want := range x.words {
			if got := wordsOf(t, a, length); !same(got, want) {
				t.Errorf("%d: %v, not %v", i, got, want)
			}
		}
	}
	p := family(t, ring)
	a := accepted(t)(BadWords(p, property(t, p, "property q never adjacent a b")))
	if got := wordsOf(t, a, 3); !same(got, words("001", "010", "011", "012", "100", "101", "110", "120", "201")) {
		t.Error(got)
	}
}

// P6.10: the largest automata of bad words have a state for each way to begin: 64 for the numbers of three counts, each with five for the neighbors or the empty word.
func TestLargestBadWords(t *testing.T) {
	p := family(t, "protocol p\ntopology ring\nstates a b c d e f\ninitial a\n")
	a := accepted(t)(BadWords(p, property(t, p, "property q never count 3 a count 3 b count 3 c")))
	if a.States != 64 || len(a.Accept) != 1 {
		t.Error(a.States)
	}
	q := property(t, p, "property q never count 3 a count 3 b count 3 c adjacent d e")
	a = accepted(t)(BadWords(p, q))
	if a.States != 64*5+1 {
		t.Error(a.States)
	}
	x := newSource(6)
	for range 3000 {
		w := x.word(6, x.between(0, 24))
		if got, e := Accepts(a, w); e != api.OK || got != plainBad(p, q, w) && len(w) > 0 || got && len(w) == 0 {
			t.Fatal(w, got)
		}
	}
}

// P6.10: random families, against all words of small lengths and some longer ones, and the system of as many processes.
func TestLanguagesPlainly(t *testing.T) {
	x := newSource(7)
	seen := map[string]int{}
	for range 600 {
		p := x.family(t, 3, 0)
		q := x.property(t, p)
		first, bad := accepted(t)(InitialWords(p, q)), accepted(t)(BadWords(p, q))
		if !same(first, plainCanonical(first)) {
			t.Fatalf("%v: %+v, %+v", first, p, q)
		}
		if small := accepted(t)(Minimal(bad)); !same(bad, small) {
			t.Fatalf("%v: %+v, %+v", bad, p, q)
		}
		list := plainWordsTo(len(p.States), 4)
		for range 30 {
			list = append(list, x.word(len(p.States), x.between(5, 16)))
		}
		for _, w := range list {
			wantFirst, wantBad := plainInitial(p, q, w), len(w) > 0 && plainBad(p, q, w)
			gotFirst, e := Accepts(first, w)
			gotBad, e2 := Accepts(bad, w)
			if e != api.OK || e2 != api.OK || gotFirst != wantFirst || gotBad != wantBad {
				t.Fatalf("%v: %v, %v: %+v, %+v", w, gotFirst, gotBad, p, q)
			}
			if is, e := unfold.Bad(p, q, api.Config{States: w, Correct: len(w)}); len(w) > 0 && (e != api.OK || is != wantBad) {
				t.Fatalf("%v: %v, error %d: %+v, %+v", w, is, e, p, q)
			}
			if wantBad {
				seen["bad"]++
			}
			if wantFirst {
				seen["initial"]++
			}
		}
		for n := 1; n <= 4; n++ {
			configs, e := unfold.Initial(p, q, api.Size{N: n})
			var want [][]int
			for _, c := range configs {
				want = append(want, c.States)
			}
			if got := wordsOf(t, first, n); e != api.OK || !same(got, want) {
				t.Fatalf("%v, not %v: %+v, %+v", got, want, p, q)
			}
		}
	}
	if seen["bad"] < 5000 || seen["initial"] < 5000 {
		t.Error(seen)
	}
}
