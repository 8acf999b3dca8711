package word

import (
	"slices"
	"testing"

	"familycheck/api"
	"familycheck/protocol"
	"familycheck/unfold"
)

// successors returns the words that t relates a word to, in ascending order.
func successors(t testing.TB, x api.Transducer, u []int) [][]int {
	t.Helper()
	image := accepted(t)(Image(x, oneOf(x.Letters, u)))
	list, e := Words(image, len(u))
	if e != api.OK {
		t.Fatalf("error %d", e)
	}
	return list
}

// unfolded returns the words that a step leads to in the system of as many processes; rule -1 stands for any rule.
func unfolded(t testing.TB, p api.Protocol, rule int, u []int) [][]int {
	t.Helper()
	if len(u) == 0 {
		return nil
	}
	s, c := api.Size{N: len(u)}, api.Config{States: u, Correct: len(u)}
	steps, e := unfold.Steps(p, s, c)
	if e != api.OK {
		t.Fatalf("error %d", e)
	}
	var list [][]int
	for _, x := range steps {
		if rule < 0 || x.Rule == rule {
			next, e := unfold.Apply(p, s, c, x)
			if e != api.OK {
				t.Fatalf("error %d", e)
			}
			list = append(list, next.States)
		}
	}
	slices.SortFunc(list, slices.Compare[[]int])
	return slices.CompactFunc(list, slices.Equal[[]int])
}

// P6.8: which families and properties the functions are for, and the errors of rules after that.
func TestCheck(t *testing.T) {
	const clique = "protocol c\ntopology clique\nstates tk no\ninitial no\nrule r local tk no\n"
	const tree = "protocol c\ntopology tree\nstates tk no\ninitial no\nrule r neighbor tk no\n"
	for i, x := range []struct {
		family, property string
		one, both        api.Errno // of the family, and of both together
	}{
		{tokText, "property q never count 2 tk", api.OK, api.OK},
		{tokText, "property q never adjacent tk tk", api.OK, api.OK},
		{tokText, "property q eventually goal tk", api.OK, api.ErrClass},
		{replaced(t, tokText, "topology ring", "topology line"), "property q never start no count 1 tk", api.OK, api.OK},
		{clique, "property q never count 2 tk", api.ErrClass, api.ErrClass},
		{clique, "property q eventually goal tk", api.ErrClass, api.ErrClass},
		{tree, "property q never adjacent tk tk", api.ErrClass, api.ErrClass},
	} {
		p := family(t, x.family)
		q := property(t, p, x.property)
		if e := Check(p, q); e != x.both {
			t.Errorf("%d: Check: error %d", i, e)
		}
		if e := second(StepRelation(p)); e != x.one {
			t.Errorf("%d: StepRelation: error %d", i, e)
		}
		for rule, want := range map[int]api.Errno{0: api.OK, 1: api.ErrRule, -1: api.ErrRule, minInt: api.ErrRule, maxInt: api.ErrRule} {
			if x.one != api.OK {
				want = x.one
			}
			if r, e := RuleRelation(p, rule); e != want || e != api.OK && !isZero(r) {
				t.Errorf("%d: RuleRelation %d: error %d", i, rule, e)
			}
		}
	}
}

// P6.9: what one rule does to some words.
func TestRuleRelation(t *testing.T) {
	const ring = "protocol p\ntopology ring\nstates a b\ninitial a\nrule r "
	const line = "protocol p\ntopology line\nstates a b\ninitial a\nrule r "
	for _, x := range []struct {
		text string
		next map[string][][]int
	}{
		{line + "neighbor a b", map[string][][]int{"": nil, "0": words("1"), "1": nil, "00": words("01", "10"), "010": words("011", "110")}},
		{line + "neighbor a a", map[string][][]int{"": nil, "0": words("0"), "1": nil, "00": words("00"), "11": nil, "101": words("101")}},
		{line + "neighbor a b left b", map[string][][]int{"0": nil, "10": words("11"), "00": nil, "01": nil, "1010": words("1011", "1110")}},
		{line + "neighbor a b right b", map[string][][]int{"0": nil, "10": nil, "00": nil, "01": words("11"), "0101": words("0111", "1101")}},
		{line + "neighbor a b left a right a", map[string][][]int{"0": nil, "00": nil, "000": words("010"), "0000": words("0010", "0100"), "0001": words("0101")}},
		{line + "neighbor a b at first", map[string][][]int{"": nil, "0": words("1"), "00": words("10"), "10": nil, "01": words("11")}},
		{line + "neighbor a b at last", map[string][][]int{"": nil, "0": words("1"), "00": words("01"), "10": words("11"), "01": nil}},
		{line + "neighbor a b at first left a b", map[string][][]int{"0": nil, "00": nil, "10": nil, "000": nil}},
		{line + "neighbor a b at last right a b", map[string][][]int{"0": nil, "00": nil, "10": nil, "000": nil}},
		{line + "neighbor a b at first right b", map[string][][]int{"0": nil, "00": nil, "01": words("11"), "0101": words("1101")}},
		{line + "neighbor a b at last left b", map[string][][]int{"0": nil, "00": nil, "10": words("11"), "1010": words("1011")}},
		{line + "pass a b b a right", map[string][][]int{"0": nil, "01": words("10"), "10": nil, "0101": words("0110", "1001"), "100": nil}},
		{line + "pass a b b a left", map[string][][]int{"0": nil, "01": nil, "10": words("01"), "1010": words("0110", "1001"), "001": nil}},
		{line + "pass a a a b right", map[string][][]int{"0": nil, "00": words("01"), "000": words("001", "010")}},
		{ring + "neighbor a b", map[string][][]int{"": nil, "0": words("1"), "1": nil, "00": words("01", "10")}},
		{ring + "neighbor a b left a", map[string][][]int{"0": words("1"), "00": words("01", "10"), "01": nil, "001": words("011"), "100": words("101"), "010": words("110")}},
		{ring + "neighbor a b left b", map[string][][]int{"0": nil, "01": words("11"), "10": words("11"), "001": words("101"), "100": words("110"), "010": words("011")}},
		{ring + "neighbor a b right b", map[string][][]int{"0": nil, "01": words("11"), "10": words("11"), "001": words("011"), "100": words("101"), "010": words("110")}},
		{ring + "neighbor a b left a right a", map[string][][]int{"0": words("1"), "00": words("01", "10"), "000": words("001", "010", "100"), "001": nil, "0001": words("0101")}},
		{ring + "neighbor a b left a right b", map[string][][]int{"0": nil, "00": nil, "01": nil, "10": nil, "001": words("011"), "100": words("101"), "010": words("110")}},
		{ring + "neighbor a b left b right a", map[string][][]int{"0": nil, "00": nil, "01": nil, "10": nil, "001": words("101"), "100": words("110"), "010": words("011")}},
		{ring + "neighbor a b left a b right b", map[string][][]int{"0": nil, "00": nil, "01": words("11"), "10": words("11"), "010": words("110")}},
		{ring + "neighbor b a left a b right a b", map[string][][]int{"0": nil, "1": words("0"), "01": words("00"), "111": words("011", "101", "110")}},
		{ring + "pass a b b a right", map[string][][]int{"0": nil, "01": words("10"), "10": words("01"), "001": words("010"), "100": words("001"), "010": words("100")}},
		{ring + "pass a b b a left", map[string][][]int{"0": nil, "01": words("10"), "10": words("01"), "001": words("100"), "100": words("010"), "010": words("001")}},
		{ring + "pass a b a b left", map[string][][]int{"0": nil, "00": words("11"), "000": words("011", "101", "110"), "010": words("111")}},
	} {
		r := related(t)(RuleRelation(family(t, x.text+"\n"), 0))
		for u, want := range x.next {
			if got := successors(t, r, word(u)); !same(got, want) {
				t.Errorf("%s: %q: %v, not %v", x.text, u, got, want)
			}
		}
	}
}

// P6.9: every kind of rule in lines and rings, against the unfolded systems and plain steps.
func TestRelationsUnfolded(t *testing.T) {
	x := newSource(5)
	kept := 0
	for i := range 500 {
		p := x.family(t, 4, 4)
		if i == 0 {
			p = family(t, lineText)
		} else if i == 1 {
			p = family(t, ringText)
		}
		all := related(t)(StepRelation(p))
		if all.States > api.MaxMachine || ValidateTransducer(all) != api.OK || all.Letters != len(p.States) {
			t.Fatal(all)
		}
		list := plainWordsTo(len(p.States), 3)
		for length := 4; length <= 6; length++ {
			list = append(list, x.word(len(p.States), length), x.word(len(p.States), length))
		}
		for _, u := range list {
			if got, want := successors(t, all, u), unfolded(t, p, -1, u); !same(got, want) {
				t.Fatalf("%v: %v, not %v: %+v", u, got, want, p)
			}
		}
		for rule, r := range p.Rules {
			one := related(t)(RuleRelation(p, rule))
			if one.States > api.MaxMachine || one.Letters != len(p.States) {
				t.Fatal(one)
			}
			for _, u := range list {
				got := successors(t, one, u)
				if want := unfolded(t, p, rule, u); !same(got, want) || !same(got, plainNext(p, r, u)) {
					t.Fatalf("%v: %v, not %v: %+v, %+v", u, got, want, p, r)
				}
				kept += len(got)
			}
			u := x.word(len(p.States), x.between(7, 12))
			if got, e := Minimal(plainImage(one, oneOf(len(p.States), u))); e != api.OK || !same(got, plainCanonical(oneOf(len(p.States), plainNext(p, r, u)...))) {
				t.Fatalf("%v: %v: %+v, %+v", u, got, p, r)
			}
		}
	}
	if kept < 10000 {
		t.Error(kept)
	}
}

// P6.9: the relation of any family has at most MaxMachine states, and without rules it relates nothing.
func TestRelationStates(t *testing.T) {
	p := family(t, "protocol p\ntopology ring\nstates a b c d e f\ninitial a\n")
	if r := related(t)(StepRelation(p)); len(successors(t, r, ints(0, 1, 2))) > 0 || plainRelates(r, nil, nil) {
		t.Error(r)
	}
	for i := range api.MaxRules {
		p.Rules = append(p.Rules, api.Rule{Name: "r" + string(rune('0'+i)), Kind: api.Neighbor, From: i % 6, To: 5, Left: ints(0, 1, 2, 3, 4, 5), Right: ints(0, 1, 2, 3, 4, 5), Read: -1, Write: -1})
	}
	if e := protocol.Validate(p); e != api.OK {
		t.Fatal(e)
	}
	for _, topology := range []int{api.Line, api.Ring} {
		p.Topology = topology
		r := related(t)(StepRelation(p))
		if r.States > api.MaxMachine || ValidateTransducer(r) != api.OK {
			t.Error(r.States)
		}
		if got := successors(t, r, ints(3, 1, 2)); !same(got, unfolded(t, p, -1, ints(3, 1, 2))) {
			t.Error(got)
		}
	}
}
