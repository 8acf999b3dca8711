package word

import (
	"slices"
	"testing"

	"familycheck/api"
	"familycheck/unfold"
)

// oneToken is the proof of the document's example 6: exactly one process has the token.
func oneToken() api.Automaton {
	return api.Automaton{Letters: 2, States: 3, Start: ints(0), Accept: ints(1), Edges: []api.Edge{{Letter: 1}, {To: 1}, {From: 1, Letter: 1, To: 1}, {From: 1, To: 2}, {From: 2, To: 2}, {From: 2, Letter: 1, To: 2}}}
}

// P6.13: what is complete and deterministic.
func TestComplete(t *testing.T) {
	p := family(t, tokText)
	q := property(t, p, "property q never count 2 tk")
	padded := func(states int) func(a *api.Automaton) {
		return func(a *api.Automaton) {
			for a.States < states {
				a.Edges = append(a.Edges, api.Edge{From: a.States}, api.Edge{From: a.States, Letter: 1, To: a.States})
				a.States++
			}
		}
	}
	for i, x := range []struct {
		change func(a *api.Automaton)
		want   bool
	}{
		{func(a *api.Automaton) {}, true},
		{func(a *api.Automaton) { slices.Reverse(a.Edges) }, true},
		{func(a *api.Automaton) { a.Accept = ints(1, 1) }, true},
		{padded(4), true},
		{padded(64), true},
		{padded(65), false},
		{padded(400), false},
		{padded(401), false},
		{func(a *api.Automaton) { *a = api.Automaton{Letters: 2} }, false},
		{func(a *api.Automaton) { a.Start = nil }, false},
		{func(a *api.Automaton) { a.Start = ints(0, 1) }, false},
		{func(a *api.Automaton) { a.Start = ints(0, 0) }, false},
		{func(a *api.Automaton) { a.Start = ints(3) }, false},
		{func(a *api.Automaton) { a.Accept = ints(1, 3) }, false},
		{func(a *api.Automaton) { a.Edges = a.Edges[:5] }, false},
		{func(a *api.Automaton) { a.Edges = a.Edges[1:] }, false},
		{func(a *api.Automaton) { a.Edges = nil }, false},
		{func(a *api.Automaton) { a.Edges = append(a.Edges, a.Edges[2]) }, false},
		{func(a *api.Automaton) { a.Edges = append(a.Edges, api.Edge{To: 2}) }, false},
		{func(a *api.Automaton) { a.Edges[5] = a.Edges[0] }, false},
		{func(a *api.Automaton) { a.Edges[5].To = 3 }, false},
		{func(a *api.Automaton) { a.States = 4 }, false},
		{func(a *api.Automaton) { a.Letters = 3 }, false},
		{func(a *api.Automaton) {
			a.Letters = 3
			for s := range 3 {
				a.Edges = append(a.Edges, api.Edge{From: s, Letter: 2, To: 2})
			}
		}, false}, // more letters than states of the family
		{func(a *api.Automaton) {
			a.Letters, a.Edges = 1, []api.Edge{{}, {From: 1, To: 1}, {From: 2, To: 2}}
		}, false},
	} {
		a := oneToken()
		x.change(&a)
		if got := CheckAutomaton(p, q, a); got != x.want {
			t.Errorf("%d: CheckAutomaton: %v", i, got)
		}
		if got := CheckRule(p, q, a, 0); got != x.want {
			t.Errorf("%d: CheckRule: %v", i, got)
		}
	}
}

// P6.13: each demand of CheckAutomaton and CheckRule on languages.
func TestCheckAutomaton(t *testing.T) {
	p := family(t, tokText)
	q := property(t, p, "property q never count 2 tk")
	none := accepted(t)(Minimal(api.Automaton{Letters: 2}))
	all := accepted(t)(Complement(none))
	atMostOne := oneToken()
	atMostOne.Accept = ints(0, 1)
	turned := api.Automaton{Letters: 2, States: 3, Start: ints(2), Accept: ints(0), Edges: []api.Edge{{From: 2, Letter: 1, To: 2}, {From: 2}, {Letter: 1}, {To: 1}, {From: 1, To: 1}, {From: 1, Letter: 1, To: 1}}}
	first := accepted(t)(InitialWords(p, q))
	three := accepted(t)(Minimal(oneOf(2, word("0"), word("01"), word("10"), word("011"), word("101"))))
	for i, x := range []struct {
		a          api.Automaton
		rule, both bool
	}{
		{oneToken(), true, true},
		{turned, true, true},
		{atMostOne, true, true},
		{none, true, false},                                        // initial words are missing
		{all, true, false},                                         // bad words are accepted
		{first, false, false},                                      // not closed
		{accepted(t)(Union(first, none)), false, false},            // the same
		{three, false, false},                                      // 110 is missing
		{accepted(t)(Complement(oneToken())), true, false},         // any other number of tokens
		{accepted(t)(Minimal(chain(2, 0))), true, false},           // the empty word alone
		{accepted(t)(Union(oneToken(), chain(2, 2))), true, false}, // a bad word more
		{accepted(t)(Intersect(oneToken(), accepted(t)(Complement(oneOf(2, word("10")))))), false, false},
		{accepted(t)(Union(oneToken(), chain(2, 0))), true, true},
	} {
		if got := CheckRule(p, q, x.a, 0); got != x.rule {
			t.Errorf("%d: CheckRule: %v", i, got)
		}
		if got := CheckAutomaton(p, q, x.a); got != x.both {
			t.Errorf("%d: CheckAutomaton: %v", i, got)
		}
	}
	for _, rule := range []int{minInt, -1, 1, maxInt} {
		if CheckRule(p, q, oneToken(), rule) {
			t.Errorf("rule %d", rule)
		}
	}
	if CheckAutomaton(p, property(t, p, "property q never count 1 tk"), oneToken()) || CheckAutomaton(p, property(t, p, "property q never adjacent tk tk"), oneToken()) {
		t.Error("another property")
	}
	p.Leader = nil
	if !CheckRule(p, q, oneToken(), 0) || CheckAutomaton(p, q, oneToken()) {
		t.Error("other initial words")
	}
	p = family(t, tokText+"rule more neighbor no tk left tk\n")
	if !CheckRule(p, q, oneToken(), 0) || CheckRule(p, q, oneToken(), 1) || CheckAutomaton(p, q, oneToken()) {
		t.Error("another rule")
	}
	p.Topology = api.Line
	if CheckRule(p, q, oneToken(), 1) || !CheckRule(p, q, all, 1) {
		t.Error("a line")
	}
}

// plainClosed follows the sentence of P6.13 on the languages of automata.
func plainClosed(t *testing.T, p api.Protocol, a api.Automaton, rule int) bool {
	return plainIncluded(plainImage(related(t)(RuleRelation(p, rule)), a), a)
}

// P6.13, P6.14: random automata and proofs with one change, against the languages, the words of small lengths and the unfolded systems.
func TestCheckPlainly(t *testing.T) {
	x := newSource(11)
	seen := map[string]int{}
	for range 1500 {
		p := x.family(t, 3, 2)
		q := x.property(t, p)
		a := x.complete(len(p.States), 3)
		if _, proof, e := Prove(p, q, 2, 8); e == api.OK && proof.States > 0 && x.IntN(4) > 0 {
			a = proof
			a.Edges[x.IntN(len(a.Edges))].To = x.IntN(a.States)
		}
		all := plainIncluded(accepted(t)(InitialWords(p, q)), a) && len(plainCanonical(plainPairs(a, accepted(t)(BadWords(p, q)), func(x, y bool) bool { return x && y })).Accept) == 0
		for rule := range p.Rules {
			want := plainClosed(t, p, a, rule)
			if got := CheckRule(p, q, a, rule); got != want {
				t.Fatalf("CheckRule: %v: %+v, %v", got, p, a)
			}
			if want {
				seen["closed"]++
				checkClosed(t, p, a, rule)
			} else {
				seen["not closed"]++
			}
			all = all && want
		}
		if got := CheckAutomaton(p, q, a); got != all {
			t.Fatalf("CheckAutomaton: %v: %+v, %+v, %v", got, p, q, a)
		}
		if all {
			seen["accepted"]++
			if _, run, found, e := unfold.Smallest(p, q, 4); e != api.OK || found {
				t.Fatalf("%v, error %d: %+v, %+v", run, e, p, q)
			}
		}
	}
	if seen["closed"] < 300 || seen["not closed"] < 100 || seen["accepted"] < 100 {
		t.Error(seen)
	}
}

// checkClosed wants that no step with the rule leads out of the language of a, for all words of small lengths.
func checkClosed(t *testing.T, p api.Protocol, a api.Automaton, rule int) {
	t.Helper()
	for _, u := range plainWordsTo(len(p.States), 4) {
		if !plainAccepts(a, u) {
			continue
		}
		for _, v := range unfolded(t, p, rule, u) {
			if !plainAccepts(a, v) {
				t.Fatalf("%v, %v: %+v, %v", u, v, p, a)
			}
		}
	}
}

// P6.13: the largest automata and rules are examined, too.
func TestCheckLargest(t *testing.T) {
	p := family(t, "protocol p\ntopology ring\nstates a b c d e f\ninitial a\nrule r neighbor a b left b c d right b c d\n")
	q := property(t, p, "property q never count 1 f")
	x := newSource(12)
	a := x.complete(6, 1)
	for a.States < api.MaxAutomaton {
		a = x.complete(6, api.MaxAutomaton)
	}
	if CheckRule(p, q, a, 0) || CheckAutomaton(p, q, a) {
		t.Error("accepted")
	}
	a.Accept = nil
	for s := range a.States {
		a.Accept = append(a.Accept, s)
	}
	if !CheckRule(p, q, a, 0) || CheckAutomaton(p, q, a) {
		t.Error("all words")
	}
}
