package tree

import (
	"slices"
	"testing"

	"familycheck/api"
	"familycheck/unfold"
)

// oneToken is a proof for the family of tokenText: exactly one process has the token. Its states are, in this order: one token, none, more.
func oneToken() api.TreeAutomaton {
	a := api.TreeAutomaton{Letters: 2, States: 3, Accept: ints(0), Leaves: []api.Leaf{{Letter: 0, To: 0}, {Letter: 1, To: 1}}}
	tokens := ints(1, 0, 2)
	state := ints(1, 0, 2, 2, 2, 2)
	for letter := range 2 {
		for i := range 3 {
			for j := range 3 {
				a.Branches = append(a.Branches, api.Branch{Letter: letter, First: i, Second: j, To: state[1-letter+tokens[i]+tokens[j]]})
			}
		}
	}
	return a
}

// padded returns a with more states, which no tree has; all of them lead to themselves.
func padded(a api.TreeAutomaton, states int) api.TreeAutomaton {
	for letter := range a.Letters {
		for i := range states {
			for j := range states {
				if max(i, j) >= a.States {
					a.Branches = append(a.Branches, api.Branch{Letter: letter, First: i, Second: j, To: max(i, j)})
				}
			}
		}
	}
	a.States = states
	return a
}

// P7.10: what is complete and deterministic, also for Post (P7.7).
func TestComplete(t *testing.T) {
	p := family(t, tokenText)
	q := property(t, p, "property q never count 2 tk")
	for i, x := range []struct {
		change func(a *api.TreeAutomaton)
		want   bool
	}{
		{func(a *api.TreeAutomaton) {}, true},
		{func(a *api.TreeAutomaton) { slices.Reverse(a.Branches) }, true},
		{func(a *api.TreeAutomaton) { slices.Reverse(a.Leaves) }, true},
		{func(a *api.TreeAutomaton) { a.Accept = ints(0, 0) }, true},
		{func(a *api.TreeAutomaton) { *a = padded(*a, 4) }, true},
		{func(a *api.TreeAutomaton) { *a = padded(*a, 8) }, true},
		{func(a *api.TreeAutomaton) { *a = padded(*a, 8); a.Accept = ints(7, 0) }, true},
		{func(a *api.TreeAutomaton) { *a = padded(*a, 9) }, false},
		{func(a *api.TreeAutomaton) { *a = padded(*a, 64) }, false},
		{func(a *api.TreeAutomaton) { *a = padded(*a, 65) }, false},
		{func(a *api.TreeAutomaton) { *a = api.TreeAutomaton{Letters: 2} }, false},
		{func(a *api.TreeAutomaton) { a.States = 4 }, false},
		{func(a *api.TreeAutomaton) { a.States = 2 }, false},
		{func(a *api.TreeAutomaton) { a.Accept = ints(0, 3) }, false},
		{func(a *api.TreeAutomaton) { a.Leaves = a.Leaves[:1] }, false},
		{func(a *api.TreeAutomaton) { a.Leaves = nil }, false},
		{func(a *api.TreeAutomaton) { a.Leaves = append(a.Leaves, a.Leaves[0]) }, false},
		{func(a *api.TreeAutomaton) { a.Leaves = append(a.Leaves, api.Leaf{To: 1}) }, false},
		{func(a *api.TreeAutomaton) { a.Leaves[1] = a.Leaves[0] }, false},
		{func(a *api.TreeAutomaton) { a.Leaves[1] = api.Leaf{To: 2} }, false},
		{func(a *api.TreeAutomaton) { a.Leaves[1].To = 3 }, false},
		{func(a *api.TreeAutomaton) { a.Branches = a.Branches[:17] }, false},
		{func(a *api.TreeAutomaton) { a.Branches = a.Branches[1:] }, false},
		{func(a *api.TreeAutomaton) { a.Branches = nil }, false},
		{func(a *api.TreeAutomaton) { a.Branches = append(a.Branches, a.Branches[2]) }, false},
		{func(a *api.TreeAutomaton) { a.Branches = append(a.Branches, api.Branch{To: 1}) }, false},
		{func(a *api.TreeAutomaton) { a.Branches[17] = a.Branches[0] }, false},
		{func(a *api.TreeAutomaton) { a.Branches[17] = api.Branch{Letter: 1, First: 2, Second: 1, To: 1} }, false},
		{func(a *api.TreeAutomaton) { a.Branches[5].To = -1 }, false},
		{func(a *api.TreeAutomaton) { a.Letters = 3 }, false},
		{func(a *api.TreeAutomaton) {
			a.Letters = 3 // more letters than states of the family
			a.Leaves = append(a.Leaves, api.Leaf{Letter: 2, To: 2})
			for i := range 9 {
				a.Branches = append(a.Branches, api.Branch{Letter: 2, First: i / 3, Second: i % 3, To: 2})
			}
		}, false},
		{func(a *api.TreeAutomaton) { a.Letters, a.Leaves, a.Branches = 1, a.Leaves[:1], a.Branches[:9] }, false},
	} {
		a := oneToken()
		x.change(&a)
		if got := CheckAutomaton(p, q, a); got != x.want {
			t.Errorf("%d: CheckAutomaton: %v", i, got)
		}
		if got := CheckRule(p, q, a, 0); got != x.want {
			t.Errorf("%d: CheckRule: %v", i, got)
		}
		post, e := Post(p, 0, a)
		if (e == api.OK) != x.want || e != api.OK && e != api.ErrArg {
			t.Errorf("%d: Post: error %d", i, e)
		}
		if x.want && !same(post, accepted(t)(Post(p, 0, oneToken()))) {
			t.Errorf("%d: Post: %v", i, post)
		}
	}
}

// P7.10: each demand of CheckAutomaton and CheckRule on languages.
func TestCheckAutomaton(t *testing.T) {
	p := family(t, tokenText)
	q := property(t, p, "property q never count 2 tk")
	none := accepted(t)(Minimal(api.TreeAutomaton{Letters: 2}))
	all := accepted(t)(Complement(none))
	atMostOne := oneToken()
	atMostOne.Accept = ints(0, 1)
	first := accepted(t)(InitialTrees(p, q))
	leaf := only(t, 2, plainRead("0,"))
	three := func(texts ...string) api.TreeAutomaton { // trees with one or three nodes
		list := []api.TreeAutomaton{leaf}
		for _, text := range texts {
			list = append(list, only(t, 2, plainRead(text)))
		}
		return accepted(t)(Minimal(plainUnion(list...)))
	}
	for i, x := range []struct {
		a                api.TreeAutomaton
		down, back, both bool
	}{
		{oneToken(), true, true, true},
		{atMostOne, true, true, true},
		{none, true, true, false},                                // initial trees are missing
		{all, true, true, false},                                 // bad trees are accepted
		{first, false, true, false},                              // not closed; up there is nowhere to go
		{accepted(t)(Complement(oneToken())), true, true, false}, // any other number of tokens
		{accepted(t)(Intersect(oneToken(), accepted(t)(Complement(leaf)))), true, true, false}, // one initial tree is missing
		{accepted(t)(Union(oneToken(), only(t, 2, plainRead("00,0,")))), true, true, false},    // a bad tree more, in which no step is possible
		{three("10,1,"), true, false, false},
		{three("10,1,", "01,1,"), false, true, false},
		{three("10,1,", "01,1,", "11,0,"), true, true, false},
		{three("01,1,", "11,0,"), false, true, false},
	} {
		if got := CheckRule(p, q, x.a, 0); got != x.down {
			t.Errorf("%d: CheckRule 0: %v", i, got)
		}
		if got := CheckRule(p, q, x.a, 1); got != x.back {
			t.Errorf("%d: CheckRule 1: %v", i, got)
		}
		if got := CheckAutomaton(p, q, x.a); got != x.both {
			t.Errorf("%d: CheckAutomaton: %v", i, got)
		}
	}
	for _, rule := range []int{minInt, -1, 2, maxInt} {
		if CheckRule(p, q, oneToken(), rule) {
			t.Errorf("rule %d", rule)
		}
	}
	if CheckAutomaton(p, property(t, p, "property q never count 1 tk"), oneToken()) || !CheckAutomaton(p, property(t, p, "property q never adjacent tk tk"), oneToken()) {
		t.Error("another property")
	}
	other := cloned(p)
	other.Leader = nil
	if !CheckRule(other, q, oneToken(), 0) || CheckAutomaton(other, q, oneToken()) || !CheckAutomaton(other, q, atMostOne) {
		t.Error("other initial trees")
	}
	for i, x := range []struct {
		rule string
		want bool
	}{
		{"neighbor no tk left tk", false},
		{"neighbor no tk right tk", false},
		{"neighbor no tk parent tk", false},
		{"neighbor no tk at first", false},
		{"neighbor no tk at last", false},
		{"neighbor tk no", false}, // the token is lost
		{"neighbor no no left tk", true},
		{"neighbor tk no left tk", true}, // never possible with one token
		{"neighbor tk no right tk parent no", true},
		{"neighbor no tk at first parent tk no", true}, // nowhere possible
		{"neighbor no tk at last left tk no", true},
		{"pass tk tk no no child", true},
		{"pass no tk no no child", false},
	} {
		more := family(t, tokenText+"rule more "+x.rule+"\n")
		if !CheckRule(more, q, oneToken(), 0) || CheckRule(more, q, oneToken(), 2) != x.want || CheckAutomaton(more, q, oneToken()) != x.want {
			t.Errorf("%d: not %v", i, x.want)
		}
	}
}

// plainClosed follows the sentence of P7.10 on the languages of automata.
func plainClosed(p api.Protocol, a api.TreeAutomaton, rule int) bool {
	return plainIncluded(plainPost(p.Rules[rule], a), a)
}

// P7.10, P7.11: random automata and proofs with one change, against the languages, the trees of small sizes and the unfolded systems.
func TestCheckPlainly(t *testing.T) {
	x := newSource(12)
	seen := map[string]int{}
	for i := range 1040 {
		p := x.family(t, 2, 2)
		if i >= 1000 {
			p = x.family(t, 4, 4)
		}
		q := x.property(t, p)
		a := x.complete(len(p.States), 3)
		if _, proof, e := Prove(p, q, 2, 8); e == api.OK && proof.States > 0 && x.IntN(4) > 0 {
			a = proof
			a.Branches[x.IntN(len(a.Branches))].To = x.IntN(a.States)
		}
		all := plainIncluded(accepted(t)(InitialTrees(p, q)), a) && len(plainCanonical(plainPairs(a, accepted(t)(BadTrees(p, q)), func(x, y bool) bool { return x && y })).Accept) == 0
		for rule := range p.Rules {
			want := plainClosed(p, a, rule)
			if got := CheckRule(p, q, a, rule); got != want {
				t.Fatalf("CheckRule: %v: %+v, %v", got, p, a)
			}
			if want {
				seen["closed"]++
				checkClosed(t, p, a, rule)
			} else {
				seen["not closed"]++
			}
			all = all && want
		}
		if got := CheckAutomaton(p, q, a); got != all {
			t.Fatalf("CheckAutomaton: %v: %+v, %+v, %v", got, p, q, a)
		}
		if all {
			seen["accepted"]++
			if _, run, found, e := unfold.Smallest(p, q, 5); e != api.OK || found {
				t.Fatalf("%v, error %d: %+v, %+v", run, e, p, q)
			}
		}
	}
	if seen["closed"] < 200 || seen["not closed"] < 70 || seen["accepted"] < 50 {
		t.Error(seen)
	}
}

// checkClosed wants that no step with the rule leads out of the language of a, for all trees of small sizes.
func checkClosed(t *testing.T, p api.Protocol, a api.TreeAutomaton, rule int) {
	t.Helper()
	for _, x := range plainTreesTo(len(p.States), 5) {
		if !plainAccepts(a, x) {
			continue
		}
		for _, next := range unfolded(t, p, rule, x) {
			if !plainAccepts(a, plainRead(next)) {
				t.Fatalf("%v, %s: %+v, %v", x, next, p, a)
			}
		}
	}
}

// P7.10: the largest automata and families are examined, too.
func TestCheckLargest(t *testing.T) {
	p := family(t, "protocol p\ntopology tree\nstates a b c d e f\ninitial a\n")
	for i := range api.MaxRules {
		r := api.Rule{Name: "r" + string(rune('0'+i)), Kind: api.Neighbor, From: i % 6, To: 5, Left: ints(i % 3), Right: ints(i%2, 5), Parent: ints(i % 5), Read: -1, Write: -1}
		if i >= 6 {
			r = api.Rule{Name: r.Name, Kind: api.Pass, From: 0, To: 1, PartnerFrom: 1, PartnerTo: 5, Direction: api.ToChild, Read: -1, Write: -1}
		}
		p.Rules = append(p.Rules, r)
	}
	q := property(t, p, "property q never count 3 f count 3 b count 3 c adjacent d f")
	x := newSource(13)
	a := x.complete(6, 1)
	for a.States < api.MaxForward {
		a = x.complete(6, api.MaxForward)
	}
	if CheckAutomaton(p, q, a) {
		t.Error("accepted")
	}
	a.Accept = ints(0, 1, 2, 3, 4, 5, 6, 7)
	if CheckAutomaton(p, q, a) {
		t.Error("all trees")
	}
	for rule := range p.Rules {
		if !CheckRule(p, q, a, rule) {
			t.Error(rule)
		}
	}
}
