package fair

import (
	"slices"
	"strconv"
	"testing"

	"familycheck/api"
	"familycheck/threshold"
	"familycheck/unfold"
)

const (
	chainText = "protocol chain\ntopology clique\nstates a b c d\ninitial a\nrule x local a b\nrule y local b c\nrule z local c d\n"
	// Two processes in b may take turns, so that none of them is forced to take y.
	turnsText = "protocol turns\ntopology clique\nstates a b c\ninitial b\nrule x local a b\nrule y local b c\nrule z pair b b b b\n"
	// A process in c allows a step of those in a, and may go away.
	guideText = "protocol guide\ntopology clique\nstates a b c d\ninitial a c\nrule x local a b exists c\nrule y local c d\n"
	// A process may change the value, after which the step x is not enabled.
	valueText = "protocol value\ntopology clique\nstates a b\nvalues one two three\ninitial a\nrule x local a b read one\nrule y local b b read one write two\nrule z local a b read two\n"
)

// P9.8: the helpful rules of each state of Reach.
func TestHelpful(t *testing.T) {
	for i, x := range []struct {
		family, property string
		weights          []int
		want             [][]int
	}{
		{abText, "property q eventually goal b", ints(1, 0), lists(ints(0), ints(0), ints(0), ints(0), ints(0), ints(0))},
		{abText, "property q eventually goal b", ints(6, 5), lists(ints(0), ints(0), ints(0), ints(0), ints(0), ints(0))},
		{abText, "property q eventually goal b", ints(0, 0), lists(nil, nil, nil, nil, nil, nil)},
		{abText, "property q eventually goal b", ints(0, 1), lists(nil, nil, nil, nil, nil, nil)},
		{abText, "property q eventually goal a", ints(1, 0), nil},
		// From b to a is raising: that does not disturb what is helpful.
		{backText, "property q eventually goal b", ints(1, 0), lists(ints(0), ints(0), ints(0), ints(0), ints(0), ints(0))},
		// A neutral rule moves the processes in b, if there are two, and no others.
		{turnsText, "property q eventually goal c", ints(2, 1, 0), lists(ints(1), ints(1), ints(1), nil, nil, nil)},
		{replaced(t, turnsText, "initial b", "initial a"), "property q eventually goal b c", ints(2, 1, 0),
			lists(ints(0), ints(0), ints(0), ints(0, 1), ints(0, 1), ints(0, 1), ints(0), ints(0), ints(0), ints(0), ints(0), ints(0), ints(0, 1), ints(0, 1), ints(0, 1), ints(0), ints(0), ints(0))},
		// A lowering one moves them, too, but only finitely often.
		{replaced(t, turnsText, "rule z pair b b b b", "rule z pair b c b c"), "property q eventually goal c", ints(2, 1, 0), lists(ints(1), ints(1), ints(1), ints(1, 2), ints(1, 2), ints(1, 2))},
		// The neutral rule y leads to states in which x is not enabled. A process in c alone is one of them.
		{replaced(t, guideText, "initial a c", "initial c"), "property q eventually goal d", ints(1, 0, 0, 0), lists(nil, nil, nil, nil, nil, nil)},
		{replaced(t, guideText, "initial a c", "initial c"), "property q eventually goal d", ints(0, 0, 1, 0), lists(ints(1), ints(1), ints(1), ints(1), ints(1), ints(1))},
		// y is neutral and is enabled with a process in b: it takes away x, but z is there.
		{valueText, "property q eventually goal b", ints(1, 0), lists(ints(0), nil, nil, ints(0), nil, nil, ints(2), ints(2), ints(2), ints(2))},
	} {
		p := family(t, x.family)
		q := property(t, p, x.property)
		if l := newPlainWorld(p, 4).helpful(q, x.weights); !same(l, x.want) {
			t.Errorf("%d: plain %v, %v", i, l, newPlainWorld(p, 4).reach(q))
		}
		if l, e := Helpful(p, q, x.weights); !same(l, x.want) || e != api.OK {
			t.Errorf("%d: %v, error %d", i, l, e)
		}
	}
}

// P9.8: a rule is not helpful if neutral steps, one after another, lead to where it is not enabled.
func TestHelpfulLater(t *testing.T) {
	text := "protocol later\ntopology clique\nstates a b c d\nvalues one two\ninitial a c\nrule x local a b exists c\nrule y local c c read one write two\nrule z local c d read two\n"
	for i, x := range []struct {
		text    string
		weights []int
		helps   func(a api.Element) bool // where x is helpful
	}{
		{text, ints(1, 0, 0, 0), func(a api.Element) bool { return false }},
		{text, ints(1, 0, 1, 0), func(a api.Element) bool { return a.Counts[0] > 0 && a.Counts[2] > 0 }},
		{text, ints(1, 1, 0, 0), func(a api.Element) bool { return false }},
		// Without z, those in c stay there.
		{replaced(t, text, "rule z local c d read two\n", ""), ints(1, 0, 0, 0), func(a api.Element) bool { return a.Counts[0] > 0 && a.Counts[2] > 0 }},
		// Without y, z is enabled nowhere.
		{replaced(t, text, "rule y local c c read one write two\n", ""), ints(1, 0, 0, 0), func(a api.Element) bool { return a.Counts[0] > 0 && a.Counts[2] > 0 }},
		// From the value one on z is not enabled for ever.
		{replaced(t, text, "read one write two", "read two write one"), ints(1, 0, 0, 0), func(a api.Element) bool { return a.Counts[0] > 0 && a.Counts[2] > 0 }},
		{replaced(t, text, "read one write two", "write two"), ints(1, 0, 0, 0), func(a api.Element) bool { return false }},
	} {
		p := family(t, x.text)
		q := property(t, p, "property q eventually goal b d")
		states, _ := Reach(p, q)
		l, e := Helpful(p, q, x.weights)
		if len(l) != len(states) || len(l) < 20 || e != api.OK {
			t.Fatalf("%d: %d lists, error %d", i, len(l), e)
		}
		for k, a := range states {
			if slices.Contains(l[k], 0) != x.helps(a) {
				t.Errorf("%d: %v in %v", i, l[k], a)
			}
		}
	}
}

// P9.9: which weights are accepted.
func TestCheckWeights(t *testing.T) {
	for i, x := range []struct {
		family, property string
		weights          []int
		want             bool
	}{
		{abText, "property q eventually goal b", ints(1, 0), true},
		{abText, "property q eventually goal b", ints(6, 5), true},
		{abText, "property q eventually goal b", ints(6, 0), true},
		{abText, "property q eventually goal b", ints(0, 0), false},
		{abText, "property q eventually goal b", ints(0, 1), false},
		{abText, "property q eventually goal b", ints(7, 0), false},
		{abText, "property q eventually goal b", ints(1, -1), false},
		{abText, "property q eventually goal b", ints(1), false},
		{abText, "property q eventually goal b", ints(1, 0, 0), false},
		{abText, "property q eventually goal b", nil, false},
		// With no state of Reach all weights are right.
		{abText, "property q eventually goal a", ints(0, 3), true},
		{abText, "property q eventually goal a", ints(0, 7), false},
		{abText, "property q eventually goal a b", ints(0, 0), true},
		// No rule leads to the goal.
		{replaced(t, abText, "rule x local a b\n", ""), "property q eventually goal b", ints(1, 0), false},
		{abText, "property q eventually start a goal b", ints(1, 0), true},
		{backText, "property q eventually goal b", ints(1, 0), false},
		{backText, "property q eventually goal b", ints(0, 0), false},
		{backText, "property q eventually goal a", ints(0, 0), true},
		// A raising rule that is enabled nowhere does no harm, and one that is enabled only where the goal is reached neither.
		{replaced(t, backText, "initial a\nrule x local a b\nrule y local b a", "values one two\ninitial a\nrule x local a b\nrule y local b a read two"), "property q eventually goal b", ints(1, 0), true},
		{backText + "rule z local b b\n", "property q eventually goal b", ints(1, 0), false},
		{replaced(t, backText, "rule y local b a", "rule y local b a forall b"), "property q eventually goal b", ints(1, 0), true},
		{replaced(t, backText, "x local a b\nrule y local b a", "x broadcast a b all b b\nrule y local b a forall b"), "property q eventually goal b", ints(1, 0), true},
		{replaced(t, backText, "x local a b\nrule y local b a", "x broadcast a b all b b\nrule y local b a"), "property q eventually goal b", ints(1, 0), true},
		{replaced(t, backText, "x local a b\nrule y local b a", "x broadcast a b all a b\nrule y local b a"), "property q eventually goal b", ints(1, 0), false},
		// A response that raises, though no process gives it.
		{replaced(t, abText, "states a b\ninitial a\nrule x local a b", "states a b c\ninitial a\nrule x broadcast a b all b b a"), "property q eventually goal b", ints(2, 1, 0), false},
		{replaced(t, abText, "states a b\ninitial a\nrule x local a b", "states a b c\ninitial a\nrule x broadcast a b all b b a"), "property q eventually goal b", ints(2, 1, 2), true},
		// A neutral rule for the processes in b, and one for those in a.
		{abText + "rule y local b b\n", "property q eventually goal b", ints(1, 0), true},
		{abText + "rule y local a a\n", "property q eventually goal b", ints(1, 0), false},
		{abText + "rule y pair b a a b\n", "property q eventually goal b", ints(1, 0), false},
		{abText + "rule y pair b b b b\n", "property q eventually goal b", ints(1, 0), true},
		{abText + "rule y pair b b a b\n", "property q eventually goal b", ints(1, 0), true},
		// A process alone in a waits for ever.
		{replaced(t, abText, "local a b", "local a b exists b"), "property q eventually goal b", ints(1, 0), false},
		{replaced(t, abText, "initial a\nrule x local a b", "initial a b\nrule x local a b exists b"), "property q eventually goal b", ints(1, 0), false},
		{replaced(t, abText, "local a b", "local a b exists a b"), "property q eventually goal b", ints(1, 0), false},
		{replaced(t, abText, "local a b", "local a b forall a b"), "property q eventually goal b", ints(1, 0), true},
		{replaced(t, abText, "local a b", "local a b forall a"), "property q eventually goal b", ints(1, 0), false},
		{replaced(t, abText, "local a b", "pair a b a b"), "property q eventually goal b", ints(1, 0), false},
		{replaced(t, abText, "local a b", "pair a b a b") + "rule y local a b forall b\n", "property q eventually goal b", ints(1, 0), true},
		{chainText, "property q eventually goal d", ints(3, 2, 1, 0), true},
		{chainText, "property q eventually goal d", ints(6, 5, 4, 2), true},
		{chainText, "property q eventually goal d", ints(2, 1, 1, 0), false},
		{chainText, "property q eventually goal d", ints(2, 2, 1, 0), false},
		{chainText, "property q eventually goal c d", ints(2, 1, 0, 0), true},
		{chainText, "property q eventually goal c d", ints(2, 1, 0, 1), false},
		{chainText, "property q eventually goal b c d", ints(1, 0, 0, 0), true},
		{chainText, "property q eventually goal c", ints(2, 1, 0, 0), false},
		{turnsText, "property q eventually goal c", ints(2, 1, 0), false},
		{replaced(t, turnsText, "initial b", "initial a"), "property q eventually goal b c", ints(2, 1, 0), true},
		{replaced(t, turnsText, "initial b", "initial a"), "property q eventually goal b c", ints(2, 1, 1), true},
		{valueText, "property q eventually goal b", ints(1, 0), false},
	} {
		p := family(t, x.family)
		q := property(t, p, x.property)
		if ok := CheckWeights(p, q, x.weights); ok != x.want {
			t.Errorf("%d: %v", i, ok)
		}
	}
}

// P9.11: the first weights that are accepted.
func TestFindWeights(t *testing.T) {
	for i, x := range []struct {
		family, property string
		most             int
		want             []int
	}{
		{abText, "property q eventually goal b", 0, nil},
		{abText, "property q eventually goal b", 1, ints(1, 0)},
		{abText, "property q eventually goal b", 3, ints(1, 0)},
		{abText, "property q eventually goal a", 0, ints(0, 0)},
		{abText, "property q eventually goal a b", 3, ints(0, 0)},
		{backText, "property q eventually goal b", 3, nil},
		{replaced(t, abText, "a\nrule x local a b", "b\nrule x local b a"), "property q eventually goal a", 3, ints(0, 1)},
		{chainText, "property q eventually goal d", 2, nil},
		{chainText, "property q eventually goal d", 3, ints(3, 2, 1, 0)},
		{chainText, "property q eventually goal c d", 1, nil},
		{chainText, "property q eventually goal c d", 2, ints(2, 1, 0, 0)},
		{chainText, "property q eventually goal c d", 3, ints(2, 1, 0, 0)},
		{chainText, "property q eventually goal b c d", 3, ints(1, 0, 0, 0)},
		{chainText, "property q eventually goal a", 3, ints(0, 0, 0, 0)},
		{chainText, "property q eventually goal b d", 3, ints(2, 1, 1, 0)},
		// The first ones of several: the weight of d may be 0 to 2.
		{replaced(t, chainText, "rule z local c d\n", ""), "property q eventually goal c", 2, ints(2, 1, 0, 0)},
		{replaced(t, chainText, "a\nrule x local a b\nrule y local b c\nrule z local c d", "d\nrule x local d b\nrule y local b a"), "property q eventually goal a", 3, ints(0, 1, 0, 2)},
		{turnsText, "property q eventually goal c", 3, nil},
	} {
		p := family(t, x.family)
		q := property(t, p, x.property)
		w, ok, e := FindWeights(p, q, x.most)
		if !same(w, x.want) || ok != (len(x.want) > 0) || e != api.OK {
			t.Errorf("%d: %v, %v, error %d", i, w, ok, e)
		}
	}
}

// P9.8, P9.9: the sets of helpful rules, and what is accepted, for weights of a source.
func TestHelpfulPlain(t *testing.T) {
	x := newSource(13)
	found := map[string]int{}
	for i := range 1000 {
		p, q, weights := x.descending(t, 3+i%20/19)
		if x.IntN(3) == 0 {
			weights = x.weights(p, 6)
		}
		w := newPlainWorld(p, 4)
		l, e := Helpful(p, q, weights)
		if want := w.helpful(q, weights); !same(l, want) || e != api.OK {
			t.Fatalf("%v, error %d, not %v: %v %+v %+v", l, e, want, weights, p, q)
		}
		ok := CheckWeights(p, q, weights)
		if ok != w.checkWeights(q, weights) {
			t.Fatalf("%v: %v %+v %+v", ok, weights, p, q)
		}
		for _, list := range l {
			found["lists of "+strconv.Itoa(len(list))]++
		}
		if len(l) > 0 {
			found["accepted "+strconv.FormatBool(ok)]++
		}
	}
	for _, name := range []string{"lists of 0", "lists of 1", "lists of 2", "accepted true", "accepted false"} {
		if found[name] < 150 {
			t.Error(found)
		}
	}
}

// P9.8, P9.9: other families, in which little is helpful.
func TestHelpfulPlainOthers(t *testing.T) {
	x := newSource(14)
	for range 500 {
		p := x.family(t, 3, 5)
		q := x.property(t, p, api.Eventually)
		w := newPlainWorld(p, 4)
		weights := x.weights(p, x.between(1, 6))
		l, e := Helpful(p, q, weights)
		if want := w.helpful(q, weights); !same(l, want) || e != api.OK {
			t.Fatalf("%v, error %d, not %v: %v %+v %+v", l, e, want, weights, p, q)
		}
		if ok := CheckWeights(p, q, weights); ok != w.checkWeights(q, weights) {
			t.Fatalf("%v: %v %+v %+v", ok, weights, p, q)
		}
	}
}

// P9.11: the first weights of a plain search.
func TestFindWeightsPlain(t *testing.T) {
	x := newSource(15)
	found, none := 0, 0
	for range 500 {
		p, q, _ := x.descending(t, 3)
		w := newPlainWorld(p, 4)
		most := x.between(0, 3)
		want, wanted := w.findWeights(q, most)
		got, ok, e := FindWeights(p, q, most)
		if !same(got, want) || ok != wanted || e != api.OK {
			t.Fatalf("%v, %v, error %d, not %v: %+v %+v", got, ok, e, want, p, q)
		}
		switch {
		case !ok:
			none++
		case slices.Max(got) > 0:
			found++
		}
	}
	if found < 60 || none < 60 {
		t.Error(found, none)
	}
}

// P9.10 (Consequence.), S4: where weights are accepted, no size has a violation.
func TestWeightsHold(t *testing.T) {
	x := newSource(16)
	accepted, found, violated := 0, 0, 0
	for i := range 6000 {
		p, q, weights := x.descending(t, 4)
		if i%3 == 0 {
			p = x.family(t, 4, 5)
			q, weights = x.property(t, p, api.Eventually), x.weights(p, 6)
		}
		ok := CheckWeights(p, q, weights)
		first, exists, e := FindWeights(p, q, 3)
		if e != api.OK || exists && !CheckWeights(p, q, first) {
			t.Fatalf("%v, error %d: %+v %+v", first, e, p, q)
		}
		s, l, lasso, e := unfold.SmallestLasso(p, q, 3)
		if e != api.OK || lasso && (ok || exists) {
			t.Fatalf("violated at %v by %+v, error %d: %v %v %+v %+v", s, l, e, weights, first, p, q)
		}
		if lasso {
			violated++
		}
		if states, _ := Reach(p, q); len(states) > 0 && ok {
			accepted++
		} else if len(states) > 0 && exists {
			found++
		}
	}
	if accepted < 500 || found < 50 || violated < 500 {
		t.Error(accepted, found, violated)
	}
}

// P9.10 (Consequence.): more processes.
func TestWeightsHoldForMore(t *testing.T) {
	x := newSource(17)
	accepted := 0
	for range 1000 {
		p, q, weights := x.descending(t, 3)
		states, _ := Reach(p, q)
		if !CheckWeights(p, q, weights) || len(states) == 0 {
			continue
		}
		accepted++
		if s, _, lasso, e := unfold.SmallestLasso(p, q, 5); lasso || e != api.OK {
			t.Fatalf("violated at %v, error %d: %v %+v %+v", s, e, weights, p, q)
		}
	}
	if accepted < 150 {
		t.Error(accepted)
	}
}

// S4: the schemas of threshold families refute nothing that weights prove.
func TestThreshold(t *testing.T) {
	x := newSource(18)
	found := 0
	for range 400 {
		p := x.thresholdFamily(t)
		q := x.property(t, p, api.Eventually)
		if threshold.Check(p, q) != api.OK {
			continue
		}
		kind, _, e := threshold.Prove(p, q, 200)
		w, ok, e2 := FindWeights(p, q, 3)
		if e != api.OK || e2 != api.OK || ok && kind == api.Feasible {
			t.Fatalf("%v, %d, errors %d, %d: %+v %+v", w, kind, e, e2, p, q)
		}
		if ok && kind == api.Infeasible {
			found++
		}
	}
	if found < 100 {
		t.Error(found)
	}
}

// thresholdFamily returns a family that has local rules to later states alone.
func (x source) thresholdFamily(t testing.TB) api.Protocol {
	p := api.Protocol{Name: "p", Topology: api.Clique, States: names("s", x.between(2, 4))}
	p.Initial = x.someSet(len(p.States))
	for _, name := range names("r", x.between(1, 4)) {
		r := api.Rule{Name: name, Kind: api.Local, Read: -1, Write: -1}
		r.From = x.IntN(len(p.States) - 1)
		r.To = x.between(r.From+1, len(p.States)-1)
		p.Rules = append(p.Rules, r)
	}
	return p
}

// The document's example 2: the loop takes two processes.
func TestBackViolated(t *testing.T) {
	p := family(t, backText)
	q := property(t, p, "property q eventually goal b")
	s, l, found, e := unfold.SmallestLasso(p, q, 3)
	if !found || e != api.OK || s != (api.Size{N: 2}) || !unfold.IsLasso(p, q, s, l) {
		t.Errorf("%v, %+v, %v, error %d", s, l, found, e)
	}
}
