package invariant

import (
	"slices"
	"testing"

	"familycheck/api"
	"familycheck/cover"
	"familycheck/unfold"
)

// P8.6: the first clause that fails at the start.
func TestInitialFailure(t *testing.T) {
	mx, kinds, cast := family(t, mxText), family(t, kindsText), family(t, castText)
	for i, x := range []struct {
		p        api.Protocol
		property string
		clauses  string
		want     int
	}{
		{mx, "property q never count 1 c", "", -1},
		{mx, "property q never count 1 c", "all c c, all c value=free", -1},
		{mx, "property q never count 1 c", "all c c, all some=w, all i", 1},
		{mx, "property q never count 1 c", "all i, all i", 0},
		{mx, "property q never count 1 c", "all w, all c, all w some=w, all value=held, all some=i", -1},
		{mx, "property q never count 1 c", "all w, all value=free", 1},
		{mx, "property q never count 1 c", "all w, all", 1},
		{mx, "property q never count 1 c", "all w, all value=held some=c, all value=free some=c", 2},
		{mx, "property q never count 1 c", "all i i", 0},
		{mx, "property q never count 1 c", "all i i some=i", 0},
		{mx, "property q never count 1 c", "all i i value=held some=c, all i value=free|held some=i", 1},
		{kinds, "property q never count 1 c", "all c, all some=a|b, all a some=b", 2},
		{kinds, "property q never start a count 1 c", "all c, all some=a, all b, all a a value=lo some=a", 3},
		{kinds, "property q never start b count 1 c", "all c, all some=a", 1},
		{kinds, "property q never start a b count 1 c", "all c, all a b", 1},
		{cast, "property q never count 1 i", "all i, all i i some=i, all some=s", -1},
		{cast, "property q never count 1 i", "all i, all s", 1},
	} {
		if i2, e := InitialFailure(x.p, property(t, x.p, x.property), clauses(t, x.p, x.clauses)); i2 != x.want || e != api.OK {
			t.Errorf("%d: %d, error %d", i, i2, e)
		}
	}
}

// P8.7: the first clause with a failure, and its smallest failure.
func TestStepFailure(t *testing.T) {
	mx, kinds, cast := family(t, mxText), family(t, kindsText), family(t, castText)
	for i, x := range []struct {
		p          api.Protocol
		rule       int
		l, assumed string
		index      int
		failure    api.Element
	}{
		{mx, 1, "", "", -1, api.Element{}},
		{mx, 1, "all c c", "", 0, element(0, 0, 1, 1)},
		{mx, 1, "all c c, all c value=free", "", -1, api.Element{}},
		{mx, 1, "all c c", "all c value=free", -1, api.Element{}},
		{mx, 1, "all c c", "all value=free some=i", 0, element(0, 1, 1, 1)},
		{mx, 1, "all c c", "all value=free", -1, api.Element{}},
		{mx, 1, "all value=held, all c c", "all w w", 0, element(0, 0, 1, 0)},
		{mx, 2, "all value=held, all c value=free", "", -1, api.Element{}},
		{mx, 2, "all w value=held, all c value=free", "", 1, element(1, 0, 0, 2)},
		{mx, 2, "all value=free, all w", "", 0, element(1, 0, 0, 1)},
		{mx, 0, "all c, all i w, all w w", "", 1, element(0, 2, 0, 0)},
		{mx, 0, "all c, all w w some=i", "", 1, element(0, 1, 1, 0)},
		{mx, 0, "all i i some=i|w", "", -1, api.Element{}},
		{mx, 0, "all i i some=i", "", 0, element(0, 3, 0, 0)},
		{mx, 0, "all some=i", "", 0, element(0, 1, 0, 0)},
		{mx, 0, "all some=i", "all i some=w", 0, element(0, 1, 1, 0)},
		{mx, 0, "all some=i", "all w some=c", 0, element(0, 1, 0, 0)},
		{mx, 0, "all some=i", "all i some=c", 0, element(0, 1, 0, 1)},
		// Contradictory clauses have no failure.
		{mx, 0, "all, all some=i", "", -1, api.Element{}},
		{mx, 0, "all some=i", "all", -1, api.Element{}},
		// The first clause with a failure is neither the first of all nor the one with the smallest failure.
		{mx, 0, "all w w, all w", "", 1, element(0, 1, 0, 0)},
		{mx, 0, "all w w some=w, all w", "", 1, element(0, 1, 0, 0)},
		// Of the failures with one total the first in the order of elements.
		{mx, 0, "all i w", "", 0, element(0, 2, 0, 0)},
		{mx, 0, "all w w", "", 0, element(0, 1, 1, 0)},
		{mx, 0, "all w i|w|c", "", 0, element(0, 1, 0, 1)},
		{mx, 0, "all w i|w|c some=i|w|c", "", 0, element(0, 1, 0, 1)},
		{mx, 0, "all w i|w|c value=held", "", 0, element(1, 1, 0, 1)},

		{kinds, 1, "all c", "", 0, element(0, 0, 2, 0)},
		{kinds, 1, "all c", "all b b", 0, element(0, 1, 1, 0)},
		{kinds, 1, "all c", "all a", 0, element(0, 0, 2, 0)},
		{kinds, 1, "all c value=lo", "", -1, api.Element{}},
		{kinds, 2, "all c some=a", "", -1, api.Element{}},
		{kinds, 2, "all a", "", 0, element(1, 0, 0, 1)},
		{kinds, 2, "all a value=hi some=b", "", 0, element(1, 0, 0, 1)},
		{kinds, 2, "all c c", "", -1, api.Element{}},
		{kinds, 2, "all c value=lo", "", -1, api.Element{}},
		{kinds, 3, "all c", "", 0, element(0, 1, 1, 0)},
		{kinds, 3, "all c", "all a some=a|c", 0, element(0, 2, 1, 0)},
		{kinds, 3, "all c value=hi", "", -1, api.Element{}},
		{kinds, 3, "all c value=lo", "", 0, element(0, 1, 1, 0)},
		{kinds, 4, "all b", "", 0, element(0, 1, 0, 1)},
		{kinds, 4, "all a a", "", -1, api.Element{}},
		{kinds, 4, "all value=lo", "", 0, element(1, 1, 0, 1)},
		{kinds, 5, "all b b", "", 0, element(1, 2, 0, 0)},
		{kinds, 5, "all b b value=lo", "", -1, api.Element{}},
		{kinds, 6, "all b b", "", 0, element(0, 2, 0, 1)},
		{kinds, 6, "all c c", "", 0, element(0, 0, 2, 1)},
		{kinds, 6, "all value=lo", "", -1, api.Element{}},

		{cast, 0, "all i i", "", 0, element(0, 1, 1)},
		{cast, 0, "all i i some=i", "all i", 0, element(0, 2, 0)},
		{cast, 0, "all s i", "", -1, api.Element{}},
		{cast, 1, "all s s", "", 0, element(0, 0, 2)},
		{cast, 1, "all s s", "all s", 0, element(0, 0, 2)},
		{cast, 1, "all s s some=i", "all s", 0, element(0, 0, 2)},
		{cast, 1, "all i i some=i", "all s", 0, element(0, 0, 4)},
		{cast, 1, "all i some=i", "all s", 0, element(0, 0, 3)},
	} {
		if plain, f := newPlainWorld(x.p, 6).stepFailure(x.rule, clauses(t, x.p, x.l), clauses(t, x.p, x.assumed)); plain != x.index || !same(f, x.failure) {
			t.Errorf("%d: plain %d, %v", i, plain, f)
		}
		index, f, e := StepFailure(x.p, x.rule, clauses(t, x.p, x.l), clauses(t, x.p, x.assumed))
		if index != x.index || !same(f, x.failure) || e != api.OK {
			t.Errorf("%d: %d, %v, error %d", i, index, f, e)
		}
	}
}

// P8.8: the smallest bad configuration in which the clauses hold.
func TestBadModel(t *testing.T) {
	mx, cast := family(t, mxText), family(t, castText)
	for i, x := range []struct {
		p        api.Protocol
		property string
		l        string
		want     api.Element
		found    bool
	}{
		{mx, "property q never count 2 c", "", element(0, 0, 0, 2), true},
		{mx, "property q never count 2 c", "all c c", api.Element{}, false},
		{mx, "property q never count 2 c", "all c value=free", element(1, 0, 0, 2), true},
		{mx, "property q never count 2 c", "all c c value=free", element(1, 0, 0, 2), true},
		{mx, "property q never count 2 c", "all c c value=free|held", api.Element{}, false},
		{mx, "property q never count 2 c", "all c some=w", element(0, 0, 1, 2), true},
		{mx, "property q never count 2 c", "all c some=i|w", element(0, 0, 1, 2), true},
		{mx, "property q never count 2 c", "all c c some=c", element(0, 0, 0, 3), true},
		{mx, "property q never count 2 c", "all c c some=i|c", element(0, 0, 0, 3), true},
		{mx, "property q never count 2 c", "all c c some=i, all i c some=i, all i i value=free", element(1, 2, 0, 2), true},
		{mx, "property q never count 3 i w", "", element(0, 0, 3, 0), true},
		{mx, "property q never count 3 i w", "all w w", element(0, 2, 1, 0), true},
		{mx, "property q never count 3 i w", "all w", element(0, 3, 0, 0), true},
		{mx, "property q never count 3 i w", "all w, all value=free", element(1, 3, 0, 0), true},
		{mx, "property q never count 3 i w", "all w, all i i", api.Element{}, false},
		{mx, "property q never count 1 i count 1 w count 1 c", "", element(0, 1, 1, 1), true},
		{mx, "property q never count 1 i count 1 w count 1 c", "all i c, all c some=c", api.Element{}, false},
		{mx, "property q never count 1 i w count 2 w c", "", element(0, 0, 1, 1), true},
		{mx, "property q never count 1 i w count 2 w c", "all w c", element(0, 0, 2, 0), true},
		{mx, "property q never count 1 i w count 2 w c", "all w", element(0, 1, 0, 2), true},
		{mx, "property q never count 1 c", "all", api.Element{}, false},
		{mx, "property q never count 1 c", "all value=free, all value=held", api.Element{}, false},
		{cast, "property q never count 3 s", "", element(0, 3, 0), true},
		{cast, "property q never count 3 s", "all s some=i", element(0, 3, 1), true},
		{cast, "property q never count 3 s", "all s some=i, all i some=i", element(0, 3, 2), true},
		{cast, "property q never count 3 s", "all s some=i, all i some=i, all i i some=i", element(0, 3, 3), true},
	} {
		e, found, err := BadModel(x.p, property(t, x.p, x.property), clauses(t, x.p, x.l))
		if !same(e, x.want) || found != x.found || err != api.OK {
			t.Errorf("%d: %v, %v, error %d", i, e, found, err)
		}
	}
}

// P8.8: a configuration is bad as it is in the unfolded system.
func TestBadUnfolded(t *testing.T) {
	x := newSource(6)
	found := 0
	for range 3000 {
		p := x.family(t, 4, false)
		q := x.property(t, p, 3)
		e := x.element(p, 8)
		c, _ := cover.Configuration(p, e)
		want, err := unfold.Bad(p, q, c)
		if got := isBad(q, e); got != want || err != api.OK || got != plainIsBad(q, e) {
			t.Fatalf("%v, error %d: %v in %v", got, err, q.Bad, e)
		}
		if want {
			found++
		}
	}
	if found < 500 || found > 2500 {
		t.Error(found)
	}
}

// P8.9: each of the three parts of a proof.
func TestCheckClauses(t *testing.T) {
	mx, cast := family(t, mxText), family(t, castText)
	for i, x := range []struct {
		p          api.Protocol
		property   string
		l, assumed string
		want       bool
	}{
		{mx, "property q never count 2 c", "all c c, all c value=free", "", true},
		{mx, "property q never count 2 c", "all c value=free, all c c", "", true},
		{mx, "property q never count 2 c", "all c c", "all c value=free", true},
		{mx, "property q never count 2 c", "", "all c c", true},
		{mx, "property q never count 2 c", "", "all c c, all c value=free", true},
		// The assumed clauses need not hold at the start, nor after a step.
		{mx, "property q never count 2 c", "", "all i i, all c c", true},
		{mx, "property q never count 2 c", "", "all", true},
		{mx, "property q never count 2 c", "all w", "all i, all c c", true},
		{mx, "property q never count 2 c", "all w", "all c c", false},
		// A clause fails at the start.
		{mx, "property q never count 2 c", "all c c, all c value=free, all i i", "", false},
		{mx, "property q never count 2 c", "all", "", false},
		{mx, "property q never count 2 c", "all value=free", "all value=free", false},
		// A clause has a failure.
		{mx, "property q never count 2 c", "all c c", "", false},
		{mx, "property q never count 2 c", "all c c, all c value=free, all w w", "", false},
		{mx, "property q never count 2 c", "all c c, all c value=free, all value=held", "", false},
		// There is a bad model.
		{mx, "property q never count 2 c", "", "", false},
		{mx, "property q never count 2 c", "all c value=free some=i|w|c", "", false},
		{mx, "property q never count 1 c", "all c c, all c value=free", "", false},
		{mx, "property q never count 1 c count 1 w", "all c c, all c value=free", "", false},
		{mx, "property q never count 2 c count 1 w", "all c c, all c value=free", "", true},
		{mx, "property q never count 3 c", "all c c, all c value=free", "", true},
		{mx, "property q never count 2 w c", "", "all w w, all w c", false},
		{mx, "property q never count 2 w c", "", "all w w, all w c, all c c", true},
		{cast, "property q never count 1 i count 1 s", "all s i", "", false},
		{cast, "property q never count 1 i count 2 s", "", "all s i", true},
	} {
		if ok := CheckClauses(x.p, property(t, x.p, x.property), clauses(t, x.p, x.l), clauses(t, x.p, x.assumed)); ok != x.want {
			t.Errorf("%d: %v", i, ok)
		}
	}
}

// P8.9: each of the rules is examined. Nothing but a step with this rule makes a process enter c.
func TestCheckClausesRules(t *testing.T) {
	for rule := range 4 {
		p := family(t, "protocol some\ntopology clique\nstates a b c\ninitial a\n")
		q := property(t, p, "property q never count 1 c")
		l := clauses(t, p, "all c")
		for i := range 4 {
			r := api.Rule{Name: "r" + string(rune('0'+i)), Kind: api.Local, From: 0, To: 1, Read: -1, Write: -1}
			p.Rules = append(p.Rules, r)
		}
		if !CheckClauses(p, q, l, nil) {
			t.Error("not accepted")
		}
		p.Rules[rule].To = 2
		if CheckClauses(p, q, l, nil) {
			t.Errorf("rule %d: accepted", rule)
		}
	}
}

// P8.11: what clauses entail.
func TestEntails(t *testing.T) {
	mx, cast := family(t, mxText), family(t, castText)
	for i, x := range []struct {
		p    api.Protocol
		l, c string
		want bool
	}{
		{mx, "", "all", false},
		{mx, "", "all some=i|w|c", true},
		{mx, "", "all some=i|w", false},
		{mx, "", "all value=free some=i|w|c", true},
		{mx, "", "all i some=i|w|c", false},
		{mx, "all", "all c c", true},
		{mx, "all", "all", true},
		{mx, "all c", "all c c", true},
		{mx, "all c", "all c some=i", true},
		{mx, "all c", "all c value=held", true},
		{mx, "all c", "all i|w|c c", true},
		{mx, "all c", "all w|c", false},
		{mx, "all w|c", "all c", true},
		{mx, "all c c", "all c", false},
		{mx, "all c some=i", "all c c some=i", true},
		{mx, "all c c some=i", "all c some=i", false},
		{mx, "all c some=i", "all c some=i|w", true},
		{mx, "all c some=i|w", "all c some=i", false},
		{mx, "all c some=i|w, all w", "all c some=i", true},
		{mx, "all value=free, all value=held", "all i", true},
		{mx, "all value=free, all c value=held", "all c", true},
		{mx, "all value=free", "all c value=held", false},
		{mx, "all value=free|held", "all", true},
		{mx, "all some=i, all some=w", "all i some=w", true},
		{mx, "all some=c", "all i|w some=c", true},
		{mx, "all some=c", "all c some=c", false},
		{mx, "all some=c, all c some=c", "all c c some=c", false},
		{mx, "all i|w|c some=i|w|c", "all i some=i|w|c", true},
		{mx, "all i|w|c some=i|w|c", "all i some=w|c", false},
		{mx, "all i i, all i|w|c some=i|w|c", "all i some=w|c", true},
		{mx, "all i i some=i, all i i some=w|c", "all i i some=i", true},
		{cast, "all s, all i", "all", true},
		{cast, "all s", "all some=i", true},
		{cast, "all s", "all i some=i", false},
		{cast, "all s, all i some=i", "all i i some=i", false},
	} {
		if ok, e := Entails(x.p, clauses(t, x.p, x.l), clause(t, x.p, x.c)); ok != x.want || e != api.OK {
			t.Errorf("%d: %v, error %d", i, ok, e)
		}
	}
}

// P8.11: what is left of a list, from the last clause to the first.
func TestReduce(t *testing.T) {
	mx := family(t, mxText)
	for i, x := range []struct{ l, want string }{
		{"", ""},
		{"all c", "all c"},
		{"all c, all c", "all c"},
		{"all c, all c c", "all c"},
		{"all c c, all c", "all c"},
		{"all c c, all c, all c, all c value=free", "all c"},
		{"all some=i|w|c", ""},
		{"all, all c, all some=i", "all"},
		{"all c, all some=i, all", "all"},
		{"all value=free, all value=held, all c", "all value=free, all value=held"},
		{"all c, all value=held, all value=free", "all value=held, all value=free"},
		// Each of the three follows from the other two: the last one goes.
		{"all c value=free, all c value=held, all c", "all c value=free, all c value=held"},
		{"all c, all c value=free, all c value=held", "all c"},
		{"all some=i, all c some=i, all c some=i|w", "all some=i"},
		{"all c some=i|w, all c some=i, all some=i", "all some=i"},
		{"all w, all c, all w|c", "all w, all c"},
		{"all w|c, all w, all c", "all w|c"},
		{"all w c, all w w, all c c, all w|c w|c", "all w c, all w w, all c c"},
		{"all w|c w|c, all w c, all w w, all c c", "all w|c w|c"},
		{"all i i some=i, all i i, all i value=free", "all i i, all i value=free"},
	} {
		l, e := Reduce(mx, clauses(t, mx, x.l))
		if text := texts(t, mx, l); text != x.want || e != api.OK {
			t.Errorf("%d: %q, error %d", i, text, e)
		}
	}
}

// trial is a random family with a property, clauses, and the plain answers.
type trial struct {
	p          api.Protocol
	q          api.Property
	l, assumed []api.Clause
	world      plainWorld
}

// trial returns a small family. The plain answers are those of more configurations than the document's bound asks for.
func (x source) trial(t testing.TB) trial {
	p := x.family(t, 3, false)
	if len(p.States) == 3 {
		p.Values = nil
		for i := range p.Rules {
			p.Rules[i].Read, p.Rules[i].Write = -1, -1
		}
	}
	a := trial{p: p, q: x.property(t, p, 2)}
	each, more := 2, 3
	if len(p.States) == 3 {
		each, more = x.between(1, 2), 2
		a.q.Bad[0].Least = min(a.q.Bad[0].Least, 2)
	}
	a.l, a.assumed = x.clauses(p, each, 4), x.clauses(p, each, 2)
	rank := plainRank(slices.Concat(a.l, a.assumed))
	for _, c := range a.q.Bad {
		rank = max(rank, c.Least)
	}
	a.world = newPlainWorld(p, rank+more)
	return a
}

// P8.6, P8.7, P8.8, P8.9, P8.11: all checks follow the plain functions, for families with every kind of rule.
func TestChecksPlain(t *testing.T) {
	x := newSource(7)
	found := map[string]int{}
	count := func(name string, ok bool) {
		if ok {
			found[name]++
		}
	}
	const trials = 1200
	for range trials {
		a := x.trial(t)
		i, err := InitialFailure(a.p, a.q, a.l)
		if err != api.OK || i != a.world.initialFailure(a.p, a.q, a.l) {
			t.Fatalf("InitialFailure is %d, error %d: %+v", i, err, a)
		}
		count("InitialFailure", i >= 0)
		for rule := range a.p.Rules {
			i, f, err := StepFailure(a.p, rule, a.l, a.assumed)
			if plain, want := a.world.stepFailure(rule, a.l, a.assumed); err != api.OK || i != plain || !same(f, want) {
				t.Fatalf("StepFailure is %d, %v, error %d, not %d, %v: %+v", i, f, err, plain, want, a)
			}
			count("StepFailure", i >= 0)
		}
		e, ok, err := BadModel(a.p, a.q, a.l)
		if want, found := a.world.badModel(a.q, a.l); err != api.OK || ok != found || !same(e, want) {
			t.Fatalf("BadModel is %v, %v, error %d: %+v", e, ok, err, a)
		}
		count("BadModel", ok)
		if CheckClauses(a.p, a.q, a.l, a.assumed) != a.world.checkClauses(a.p, a.q, a.l, a.assumed) {
			t.Fatalf("CheckClauses: %+v", a)
		}
		for _, c := range a.assumed {
			ok, err := Entails(a.p, a.l, c)
			if err != api.OK || ok != a.world.entails(a.l, c) {
				t.Fatalf("Entails is %v, error %d: %+v", ok, err, a)
			}
			count("Entails", ok)
		}
		l, err := Reduce(a.p, a.l)
		if err != api.OK || !same(l, a.world.reduce(a.l)) {
			t.Fatalf("Reduce is %v, error %d: %+v", l, err, a)
		}
		count("Reduce", len(l) < len(a.l))
	}
	for _, name := range []string{"InitialFailure", "StepFailure", "BadModel", "Entails", "Reduce"} {
		if found[name] < trials/8 {
			t.Error(found)
		}
	}
}
