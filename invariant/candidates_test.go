package invariant

import (
	"slices"
	"strings"
	"testing"

	"familycheck/api"
	"familycheck/cover"
	"familycheck/protocol"
	"familycheck/unfold"
)

// P8.12: all candidates of small families, in their order.
func TestCandidates(t *testing.T) {
	for i, x := range []struct{ text, want string }{
		{
			"protocol p\ntopology clique\nstates a\ninitial a\n",
			"all some=a, all a, all a some=a, all a a",
		},
		{
			"protocol p\ntopology clique\nstates a\nvalues x\ninitial a\n",
			"all some=a, all value=x, all value=x some=a, " +
				"all a, all a some=a, all a value=x, all a value=x some=a, " +
				"all a a, all a a value=x",
		},
		{
			"protocol p\ntopology clique\nstates a b\ninitial a\n",
			"all some=a, all some=b, all a, all a some=a, all a some=b, all b, all b some=a, all b some=b, all a a, all a b, all b b",
		},
		{
			"protocol p\ntopology clique\nstates a b\nvalues x y\ninitial b\n",
			"all some=a, all some=b, all value=x, all value=x some=a, all value=x some=b, all value=y, all value=y some=a, all value=y some=b, " +
				"all a, all a some=a, all a some=b, all a value=x, all a value=x some=a, all a value=x some=b, all a value=y, all a value=y some=a, all a value=y some=b, " +
				"all b, all b some=a, all b some=b, all b value=x, all b value=x some=a, all b value=x some=b, all b value=y, all b value=y some=a, all b value=y some=b, " +
				"all a a, all a a value=x, all a a value=y, all a b, all a b value=x, all a b value=y, all b b, all b b value=x, all b b value=y",
		},
	} {
		p := family(t, x.text)
		l, e := Candidates(p)
		if text := texts(t, p, l); text != x.want || e != api.OK {
			t.Errorf("%d: %q, error %d", i, text, e)
		}
	}
	if l, e := Candidates(family(t, fourText)); len(l) != 139 || e != api.OK {
		t.Errorf("%d, error %d", len(l), e)
	}
}

// P8.12: the candidates follow the plain function, and none is there twice.
func TestCandidatesPlain(t *testing.T) {
	x := newSource(8)
	for range 300 {
		p := x.family(t, 4, false)
		l, e := Candidates(p)
		if e != api.OK || !same(l, plainCandidates(p)) {
			t.Fatalf("%v, error %d: %+v", l, e, p)
		}
		for i, c := range l {
			if slices.ContainsFunc(l[:i], func(d api.Clause) bool { return CompareClause(c, d) == 0 }) || ValidClause(p, c) != api.OK {
				t.Fatal(c)
			}
		}
	}
}

// P8.13: what is reachable at small sizes, and the limit on the size.
func TestReachedElements(t *testing.T) {
	mx, cast := family(t, mxText), family(t, castText)
	two := elements(element(0, 0, 1, 0), element(0, 0, 2, 0), element(0, 1, 0, 0), element(0, 1, 1, 0), element(0, 2, 0, 0), element(1, 0, 0, 1), element(1, 0, 1, 1), element(1, 1, 0, 1))
	for i, x := range []struct {
		p        api.Protocol
		property string
		most     int
		want     []api.Element
		err      api.Errno
	}{
		{mx, "property q never count 2 c", 0, nil, api.OK},
		{mx, "property q never count 2 c", -1, nil, api.OK},
		{mx, "property q never count 2 c", minInt, nil, api.OK},
		{mx, "property q never count 2 c", 1, elements(element(0, 0, 1, 0), element(0, 1, 0, 0), element(1, 0, 0, 1)), api.OK},
		{mx, "property q never count 2 c", 2, two, api.OK},
		{mx, "property q never count 1 i", 2, two, api.OK},
		{cast, "property q never count 2 s", 3, elements(element(0, 0, 1), element(0, 0, 2), element(0, 0, 3), element(0, 1, 0), element(0, 2, 0), element(0, 2, 1), element(0, 3, 0)), api.OK},
		{mx, "property q never count 2 c", 7, nil, api.ErrArg},
		{mx, "property q never count 2 c", 8, nil, api.ErrArg},
		{mx, "property q never count 2 c", maxInt, nil, api.ErrArg},
	} {
		l, e := ReachedElements(x.p, property(t, x.p, x.property), x.most)
		if !same(l, x.want) || e != x.err {
			t.Errorf("%d: %v, error %d", i, l, e)
		}
	}
	if l, e := ReachedElements(mx, property(t, mx, "property q never count 2 c"), 6); e != api.OK || len(l) != 27+21 || !same(l, plainReached(mx, api.Property{}, 6)) {
		t.Errorf("%d, error %d", len(l), e)
	}
}

// P8.13: ErrLarge is that of unfold.Reach. With four states to start in there are 4096 initial configurations of six processes.
func TestReachedLarge(t *testing.T) {
	p := family(t, fourText)
	for i, x := range []struct {
		property string
		most     int
		want     api.Errno
	}{
		{"property q never count 1 a", 5, api.OK},
		{"property q never count 1 a", 6, api.ErrLarge},
		{"property q never start a b c d count 1 a", 6, api.ErrLarge},
		{"property q never count 1 a", 7, api.ErrArg},
		{"property q never start a b c count 1 a", 6, api.OK},
	} {
		q := property(t, p, x.property)
		l, e := ReachedElements(p, q, x.most)
		list, e2 := Generalize(p, q, x.most)
		kind, proof, e3 := Prove(p, q, x.most)
		if e != x.want || e2 != x.want || e3 != x.want || (len(l) == 0) != (e != api.OK) || (len(list) == 0) != (e != api.OK) || kind != api.Open || len(proof) != 0 {
			t.Errorf("%d: %d, error %d; %d, error %d; %d, %v, error %d", i, len(l), e, len(list), e2, kind, proof, e3)
		}
	}
}

// P8.13: what is reachable follows the plain search.
func TestReachedPlain(t *testing.T) {
	x := newSource(9)
	for range 250 {
		p := x.family(t, 4, false)
		q := x.property(t, p, 2)
		most := x.between(-1, 4)
		l, e := ReachedElements(p, q, most)
		if e != api.OK || !same(l, plainReached(p, q, most)) {
			t.Fatalf("%d: %v, error %d: %+v", most, l, e, p)
		}
	}
}

// P8.13: the clauses that hold in all elements.
func TestFilter(t *testing.T) {
	mx := family(t, mxText)
	reached, _ := ReachedElements(mx, property(t, mx, "property q never count 2 c"), 2)
	const most = api.MaxParameter
	for i, x := range []struct {
		l, want  string
		elements []api.Element
	}{
		{"", "", nil},
		{"", "", reached},
		{"all, all i, all some=c", "all, all i, all some=c", nil},
		{"all, all c c, all i, all c value=free, all some=i", "all c c, all c value=free", reached},
		{"all c c, all c c", "all c c, all c c", reached},
		{"all c value=free, all c c, all c value=free", "all c value=free, all c c, all c value=free", reached},
		{"all i i, all i w, all w w, all i c", "", reached},
		{"all i i some=i, all c c, all i i", "all i i some=i, all c c", elements(element(0, most, 1, 1), element(1, 3, 0, 0))},
		{"all i i some=i, all c c, all i i", "all c c", elements(element(0, most, 1, 1), element(1, 2, 0, 0))},
		{"all value=free, all value=held", "all value=free", elements(element(1, 1, 0, 0))},
	} {
		l, e := Filter(mx, clauses(t, mx, x.l), x.elements)
		if text := texts(t, mx, l); text != x.want || e != api.OK {
			t.Errorf("%d: %q, error %d", i, text, e)
		}
	}
}

// P8.13: all lists of a source.
func TestFilterPlain(t *testing.T) {
	x := newSource(10)
	kept := 0
	for range 2000 {
		p := x.family(t, 4, false)
		l := x.clauses(p, 2, 8)
		var list []api.Element
		for range x.IntN(5) {
			list = append(list, x.element(p, 7))
		}
		got, e := Filter(p, l, list)
		if e != api.OK || !same(got, plainFilter(l, list)) {
			t.Fatalf("%v, error %d: %v in %v", got, e, l, list)
		}
		kept += len(got)
	}
	if kept < 1000 {
		t.Error(kept)
	}
}

// P8.14: what is left of a list.
func TestStrengthen(t *testing.T) {
	mx, cast := family(t, mxText), family(t, castText)
	for i, x := range []struct {
		p                api.Protocol
		property         string
		l, assumed, want string
	}{
		{mx, "property q never count 2 c", "", "", ""},
		{mx, "property q never count 2 c", "all c c", "", ""},
		{mx, "property q never count 2 c", "all c c", "all c value=free", "all c c"},
		{mx, "property q never count 2 c", "all c c, all c value=free", "", "all c c, all c value=free"},
		{mx, "property q never count 2 c", "all c value=free, all w, all c c, all i", "", "all c value=free, all c c"},
		{mx, "property q never count 2 c", "all c c, all c c, all c value=free, all c c", "", "all c c, all c c, all c value=free, all c c"},
		// Without the clause that fails at the start the others fail one after the other.
		{mx, "property q never count 2 c", "all i, all w, all c, all value=held", "", ""},
		{mx, "property q never count 2 c", "all w, all c, all value=held", "", ""},
		{mx, "property q never count 2 c", "all c, all value=held", "all w", "all c, all value=held"},
		{mx, "property q never count 2 c", "all w, all c, all value=held", "all i", "all w, all c, all value=held"},
		{mx, "property q never count 2 c", "all w, all c, all value=held", "all", "all w, all c, all value=held"},
		// The assumed clauses stay, though they fail.
		{mx, "property q never count 2 c", "all i, all c c, all w w", "all c value=free, all i", "all c c, all w w"},
		{mx, "property q never count 2 c", "all some=i|w|c, all value=free some=i, all c some=i|w", "", "all some=i|w|c"},
		{cast, "property q never count 1 i", "all s i, all i, all s s", "", ""},
		{cast, "property q never count 1 i", "all i some=i", "", ""},
		{family(t, replaced(t, castText, "rule p pair i s i s\n", "")), "property q never count 1 i", "all s i, all i, all s s, all i some=i", "", "all s i"},
	} {
		l, e := Strengthen(x.p, property(t, x.p, x.property), clauses(t, x.p, x.l), clauses(t, x.p, x.assumed))
		if text := texts(t, x.p, l); text != x.want || e != api.OK {
			t.Errorf("%d: %q, error %d", i, text, e)
		}
	}
}

// P8.14: Strengthen follows the plain function that removes clauses again and again, and returns the largest of all sublists without a failure.
func TestStrengthenPlain(t *testing.T) {
	x := newSource(11)
	kept, removed := 0, 0
	for range 1200 {
		a := x.trial(t)
		l, e := Strengthen(a.p, a.q, a.l, a.assumed)
		if e != api.OK || !same(l, a.world.strengthen(a.p, a.q, a.l, a.assumed)) {
			t.Fatalf("%v, error %d: %+v", l, e, a)
		}
		kept += len(l)
		removed += len(a.l) - len(l)
		for chosen := range 1 << len(a.l) {
			var some []api.Clause
			for i, c := range a.l {
				if chosen>>i&1 == 1 {
					some = append(some, c)
				}
			}
			if len(some) > len(l) && !a.fails(t, some) {
				t.Fatalf("%v is larger than %v: %+v", some, l, a)
			}
		}
		if a.fails(t, l) {
			t.Fatalf("%v fails: %+v", l, a)
		}
	}
	if kept < 300 || removed < 300 {
		t.Error(kept, removed)
	}
}

// fails reports whether one of the clauses fails at the start or under a rule.
func (a trial) fails(t *testing.T, l []api.Clause) bool {
	index, e := InitialFailure(a.p, a.q, l)
	if e != api.OK {
		t.Fatal(e)
	}
	for rule := range a.p.Rules {
		if index == -1 {
			index, _, e = StepFailure(a.p, rule, l, a.assumed)
		}
		if e != api.OK {
			t.Fatal(e)
		}
	}
	return index != -1
}

// P8.14, P8.15: what is found for the document's families.
func TestProve(t *testing.T) {
	mx, cast := family(t, mxText), family(t, castText)
	alone := family(t, replaced(t, castText, "rule p pair i s i s\n", ""))
	for i, x := range []struct {
		p        api.Protocol
		property string
		most     int
		kind     int
		proof    string
	}{
		{mx, "property q never count 2 c", 3, api.Holds, "all value=held some=c, all c value=free, all c c"},
		{mx, "property q never count 2 c", 0, api.Holds, "all value=held some=c, all c value=free, all c c"},
		{mx, "property q never count 2 c", 6, api.Holds, "all value=held some=c, all c value=free, all c c"},
		{mx, "property q never count 1 c", 3, api.Open, ""},
		{mx, "property q never count 1 c count 1 w", 3, api.Open, ""},
		{mx, "property q never count 3 c", 1, api.Holds, "all value=held some=c, all c value=free, all c c"},
		{family(t, replaced(t, mxText, " read free write held", " write held")), "property q never count 2 c", 3, api.Open, ""},
		{cast, "property q never count 1 i", 3, api.Open, ""},
		{cast, "property q never count 1 s count 1 i", 3, api.Open, ""},
		{alone, "property q never count 1 s count 1 i", 3, api.Holds, "all s i"},
		{alone, "property q never count 3 s", 3, api.Open, ""},
	} {
		q := property(t, x.p, x.property)
		kind, proof, e := Prove(x.p, q, x.most)
		if text := texts(t, x.p, proof); kind != x.kind || text != x.proof || e != api.OK {
			t.Errorf("%d: %d, %q, error %d", i, kind, text, e)
		}
		if CheckClauses(x.p, q, proof, nil) != (kind == api.Holds) {
			t.Errorf("%d: not accepted", i)
		}
		list, e := Generalize(x.p, q, x.most)
		if _, found, _ := BadModel(x.p, q, list); e != api.OK || found != (kind == api.Open) {
			t.Errorf("%d: %v, %q, error %d", i, found, texts(t, x.p, list), e)
		}
	}
}

// P8.14, P8.15: Generalize and Prove follow the plain functions.
func TestProvePlain(t *testing.T) {
	x := newSource(12)
	var found [3]int
	for range 900 {
		a := x.trial(t)
		if len(a.p.States) == 3 {
			continue
		}
		world := newPlainWorld(a.p, 6)
		most := x.between(0, 3)
		want := world.strengthen(a.p, a.q, plainFilter(plainCandidates(a.p), plainReached(a.p, a.q, most)), nil)
		l, e := Generalize(a.p, a.q, most)
		if e != api.OK || !same(l, want) {
			t.Fatalf("%v, not %v, error %d: %+v", l, want, e, a)
		}
		kind, proof, e := Prove(a.p, a.q, most)
		_, bad := world.badModel(a.q, want)
		if bad && (kind != api.Open || len(proof) != 0) || !bad && (kind != api.Holds || !same(proof, world.reduce(want))) || e != api.OK {
			t.Fatalf("%d, %v, error %d: %+v", kind, proof, e, a)
		}
		found[kind]++
	}
	if found[api.Open] < 40 || found[api.Holds] < 40 {
		t.Error(found)
	}
}

// P8.10, S1, S4: where clauses are accepted, no system of a small size has a violation, the search backward refutes nothing, and the clauses hold in all that is reachable.
func TestProofsHold(t *testing.T) {
	x := newSource(13)
	var accepted, refuted, kinds [4]int
	for round := range 700 {
		p := x.family(t, 4, round%2 == 0)
		q := x.property(t, p, 2)
		most := x.between(1, 3)
		kind, proof, e := Prove(p, q, most)
		if e != api.OK || CheckClauses(p, q, proof, nil) != (kind == api.Holds) {
			t.Fatalf("%d, %v, error %d: %+v %+v", kind, proof, e, p, q)
		}
		_, run, found, _ := unfold.Smallest(p, q, 4)
		if found {
			refuted[len(p.States)-1]++
		}
		if kind != api.Holds {
			continue
		}
		accepted[len(p.States)-1]++
		for _, r := range p.Rules {
			kinds[r.Kind]++
		}
		if found {
			t.Fatalf("%v, but %v: %+v %+v", proof, run, p, q)
		}
		if r, e := cover.Solve(p, q, 20); e == api.OK && r.Verdict == api.Violated {
			t.Fatalf("%v, but %v: %+v %+v", proof, r, p, q)
		}
		list, _ := Generalize(p, q, most)
		for _, e := range plainReached(p, q, 4) {
			if !plainAllHold(proof, e) || !plainAllHold(list, e) {
				t.Fatalf("%v does not hold in %v: %+v %+v", list, e, p, q)
			}
		}
	}
	if slices.Min(accepted[1:]) < 20 || slices.Min(refuted[:]) < 20 || slices.Min(kinds[1:]) < 50 {
		t.Error(accepted, refuted, kinds)
	}
}

// P8.10: the same with assumed clauses that hold in all that is reachable.
func TestAssumedHold(t *testing.T) {
	x := newSource(14)
	needed := 0
	for range 1500 {
		p := x.family(t, 3, false)
		q := x.property(t, p, 2)
		reached := plainReached(p, q, 5)
		all, _ := Candidates(p)
		all, _ = Filter(p, all, reached)
		var own, assumed []api.Clause
		for _, c := range all {
			if x.IntN(3) == 0 {
				assumed = append(assumed, c)
			} else if x.IntN(3) == 0 {
				own = append(own, c)
			}
		}
		own, e := Strengthen(p, q, own, assumed)
		if e != api.OK || !CheckClauses(p, q, own, assumed) {
			continue
		}
		if !CheckClauses(p, q, own, nil) {
			needed++
		}
		for _, e := range reached {
			if !plainAllHold(own, e) || plainIsBad(q, e) {
				t.Fatalf("%v does not hold in %v, or it is bad: %+v %+v", own, e, p, q)
			}
		}
	}
	if needed < 50 {
		t.Error(needed)
	}
}

// P8.12: the number of candidates is at most the limit on clauses.
func TestMostCandidates(t *testing.T) {
	for states := 1; states <= 4; states++ {
		for values := 0; values <= api.MaxValues; values++ {
			p := api.Protocol{Name: "p", Topology: api.Clique, States: names("s", states), Values: names("v", values), Initial: ints(0)}
			if protocol.Validate(p) != api.OK {
				t.Fatal(p)
			}
			l, e := Candidates(p)
			if want := (values+1)*(states+1) - 1 + states*(values+1)*(states+1) + states*(states+1)/2*(values+1); e != api.OK || len(l) != want || len(l) > api.MaxClauses {
				t.Errorf("%d, not %d, error %d", len(l), want, e)
			}
			if _, e := Reduce(p, l); e != api.OK || !strings.HasPrefix(texts(t, p, l), "all some=s0") {
				t.Error(e)
			}
		}
	}
}
