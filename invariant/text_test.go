package invariant

import (
	"slices"
	"strings"
	"testing"

	"familycheck/api"
	"familycheck/protocol"
)

// P8.16: the texts of clauses with and without each part.
func TestTexts(t *testing.T) {
	mx, cast := family(t, mxText), family(t, castText)
	for i, x := range []struct {
		p    api.Protocol
		c    api.Clause
		text string
	}{
		{mx, clauseOf(nil, nil), "all"},
		{mx, clauseOf(nil, nil, ints(2), ints(2)), "all c c"},
		{mx, clauseOf(ints(1), ints(0, 1), ints(2)), "all c value=held some=i|w"},
		{mx, clauseOf(nil, nil, ints(0, 1, 2)), "all i|w|c"},
		{mx, clauseOf(nil, nil, ints(1, 2), ints(0, 2)), "all w|c i|c"},
		{mx, clauseOf(ints(0), nil), "all value=free"},
		{mx, clauseOf(ints(0, 1), nil, ints(0)), "all i value=free|held"},
		{mx, clauseOf(nil, ints(0, 2)), "all some=i|c"},
		{mx, clauseOf(nil, ints(1), ints(0), ints(1)), "all i w some=w"},
		{mx, clauseOf(ints(0), ints(2)), "all value=free some=c"},
		{cast, clauseOf(nil, ints(1), ints(0, 1), ints(0)), "all s|i s some=i"},
		{family(t, "protocol p\ntopology clique\nstates value some\nvalues i\ninitial value\n"), clauseOf(ints(0), ints(1), ints(0), ints(0, 1)), "all value value|some value=i some=some"},
	} {
		if s, e := FormatClause(x.p, x.c); s != x.text || e != api.OK || s != plainText(x.p, x.c) {
			t.Errorf("%d: %q, error %d", i, s, e)
		}
		if c, e := ParseClause(x.p, x.text); !same(c, x.c) || e != api.OK {
			t.Errorf("%d: %v, error %d", i, c, e)
		}
	}
}

// P8.16: texts of no clause.
func TestNoTexts(t *testing.T) {
	mx, cast := family(t, mxText), family(t, castText)
	for i, text := range []string{
		"", " ", "al", "alll", "All", "any", "all ", " all", "all  ", "all\n", "all\t", "all all", "c", "c c", "value=free", "some=c", "all\x00",
		"all x", "all C", "all c|x", "all free", "all c|free", "all |", "all c|", "all |c", "all c||i", "all c |", "all c i|", "all i,c", "all ic",
		"all c c c", "all i i i i", "all c|i", "all c|c", "all i|w|c|c", "all i i|i", "all  c", "all c  c", "all c ", "all c\n", "all c c\n",
		"all value", "all value=", "all value=c", "all value=x", "all value=held|free", "all value=free|free", "all value=free|", "all value=|free", "all value= free", "all value =free", "all value=free ", "all value=free|held|x", "all value=free value=free", "all value=free value=held", "all Value=free",
		"all some", "all some=", "all some=free", "all some=x", "all some=c|i", "all some=c|c", "all some=c|", "all some=|c", "all some= c", "all some=c ", "all some=c some=c", "all some=c some=i",
		"all some=c value=free", "all some=c c", "all value=free c", "all value=free some=c i", "all value=free some=c value=free", "all c value=free i", "all c c c value=free", "all value=free\nsome=c", "all c\tc",
		"all c c # two", "all\u00a0c", "all c c\x00", "all \xff", "all some==c", "all value==free", "all c=c", "all =",
	} {
		if c, e := ParseClause(mx, text); !isZero(c) || e != api.ErrSyntax {
			t.Errorf("%d: %q: %v, error %d", i, text, c, e)
		}
	}
	for i, text := range []string{"all value=", "all value=s", "all value=v", "all c", "all s i s"} {
		if c, e := ParseClause(cast, text); !isZero(c) || e != api.ErrSyntax {
			t.Errorf("%d: %q: %v, error %d", i, text, c, e)
		}
	}
}

// P8.16: the length of a text comes before its form.
func TestTextLength(t *testing.T) {
	mx := family(t, mxText)
	for i, x := range []struct {
		text string
		want api.Errno
	}{
		{strings.Repeat("a", api.MaxText), api.ErrSyntax},
		{strings.Repeat("a", api.MaxText+1), api.ErrLarge},
		{"all" + strings.Repeat(" c", (api.MaxText-3)/2), api.ErrSyntax},
		{"all" + strings.Repeat(" c", api.MaxText/2), api.ErrLarge},
		{"all" + strings.Repeat(" ", api.MaxText-3), api.ErrSyntax},
		{"all c" + strings.Repeat("|c", api.MaxText), api.ErrLarge},
		{strings.Repeat("é", api.MaxText/2), api.ErrSyntax},
		{strings.Repeat("é", api.MaxText/2+1), api.ErrLarge},
	} {
		if c, e := ParseClause(mx, x.text); !isZero(c) || e != x.want {
			t.Errorf("%d: %v, error %d", i, c, e)
		}
	}
	long := family(t, "protocol p\ntopology clique\nstates aaaaaaaaaaaa bbbbbbbbbbbb cccccccccccc dddddddddddd\nvalues xxxxxxxxxxxx yyyyyyyyyyyy zzzzzzzzzzzz\ninitial aaaaaaaaaaaa\n")
	c := clauseOf(ints(0, 1, 2), ints(0, 1, 2, 3), ints(0, 1, 2, 3), ints(0, 1, 2, 3))
	text, e := FormatClause(long, c)
	if back, e2 := ParseClause(long, text); len(text) != 3+2*52+7+38+6+51 || e != api.OK || e2 != api.OK || !same(back, c) {
		t.Error(len(text), e, e2, back)
	}
}

// sets returns all sets of indexes below count.
func sets(count int) [][]int {
	var list [][]int
	for chosen := range 1 << count {
		var set []int
		for i := range count {
			if chosen>>i&1 == 1 {
				set = append(set, i)
			}
		}
		list = append(list, set)
	}
	return list
}

// allClauses returns all valid clauses of a family.
func allClauses(p api.Protocol) []api.Clause {
	eaches := [][][]int{nil}
	for _, a := range sets(len(p.States))[1:] {
		eaches = append(eaches, [][]int{a})
		for _, b := range sets(len(p.States))[1:] {
			eaches = append(eaches, [][]int{a, b})
		}
	}
	var list []api.Clause
	for _, each := range eaches {
		for _, values := range sets(len(p.Values)) {
			for _, some := range sets(len(p.States)) {
				list = append(list, cloned(clauseOf(values, some, each...)))
			}
		}
	}
	return list
}

// P8.16, S6: every clause has one text, no two have the same, and it is read again.
func TestTextsInverse(t *testing.T) {
	for _, text := range []string{mxText, castText, fourText} {
		p := family(t, text)
		found := map[string]bool{}
		list := allClauses(p)
		for _, c := range list {
			s, e := FormatClause(p, c)
			if e != api.OK || s != plainText(p, c) || found[s] {
				t.Fatalf("%q, error %d: %v", s, e, c)
			}
			found[s] = true
			if back, e := ParseClause(p, s); e != api.OK || !same(back, c) {
				t.Fatalf("%q: %v, error %d", s, back, e)
			}
		}
	}
}

// P8.4: the order of all valid clauses of a family is strict, and CompareClause sorts them as their parts say.
func TestOrderOfAll(t *testing.T) {
	p := family(t, castText)
	list := allClauses(p)
	slices.SortFunc(list, CompareClause)
	for i, a := range list {
		for k, b := range list {
			if got := CompareClause(a, b); (got < 0) != (i < k) || (got > 0) != (i > k) || got < -1 || got > 1 {
				t.Fatal(a, b, got)
			}
		}
	}
	if s := texts(t, p, list[:6]); s != "all, all some=s, all some=s|i, all some=i, all s, all s some=s" {
		t.Error(s)
	}
}

// P8.16: a changed text is one of another clause, or of none.
func TestAlteredTexts(t *testing.T) {
	x := newSource(15)
	accepted, refused := 0, 0
	const bytes = "all iwc|=valuesomefrhd \n"
	for range 40000 {
		p := family(t, mxText)
		text := []byte(plainText(p, x.clause(p, 2)))
		for range x.between(1, 3) {
			at, letter := x.IntN(len(text)), bytes[x.IntN(len(bytes))]
			switch x.IntN(4) {
			case 0:
				text[at] = letter
			case 1:
				text = slices.Insert(text, at, letter)
			case 2:
				text = slices.Delete(text, at, at+1)
			default:
				end := x.between(at, len(text))
				text = slices.Insert(text, x.IntN(len(text)+1), slices.Clone(text[at:end])...)
			}
			if len(text) == 0 {
				text = []byte(" ")
			}
		}
		c, e := ParseClause(p, string(text))
		switch {
		case e == api.OK && plainClauseError(p, c) == api.OK && plainText(p, c) == string(text):
			accepted++
		case e == api.ErrSyntax && isZero(c):
			refused++
		default:
			t.Fatalf("%q: %v, error %d", text, c, e)
		}
	}
	if accepted < 1000 || refused < 10000 {
		t.Error(accepted, refused)
	}
}

// P8.16: names of states and values are those of the family as it is.
func TestTextsAfterRename(t *testing.T) {
	p := family(t, mxText)
	c := clause(t, p, "all c c value=held some=c")
	p, e := protocol.Apply(p, api.Edit{Kind: api.RenameState, State: 2, Name: "crit"})
	if s, e2 := FormatClause(p, c); e != api.OK || e2 != api.OK || s != "all crit crit value=held some=crit" {
		t.Error(s, e, e2)
	}
	if c, e := ParseClause(p, "all c c"); e != api.ErrSyntax {
		t.Error(c, e)
	}
}
