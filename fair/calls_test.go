package fair

import (
	"strings"
	"testing"

	"familycheck/api"
	"familycheck/protocol"
)

// arguments has one argument for each parameter of the package's functions.
type arguments struct {
	P                 api.Protocol
	Q, V              api.Property // an Eventually property, and a Never property
	W                 []int
	A                 api.Element // an abstract state
	E                 api.Element
	Rule, State, Most int
}

// call is an exported function; run returns its error, or OK if it has none, and its other results.
type call struct {
	name  string
	takes string // the arguments whose errors it returns: p, q (a property), k (a property of one kind), w (weights), r (a rule), s (a state), a, e, m (most); b returns false instead of errors
	run   func(a arguments) (api.Errno, []any)
}

func calls() []call {
	decision := func(f func(a arguments) (bool, api.Errno)) func(a arguments) (api.Errno, []any) {
		return func(a arguments) (api.Errno, []any) {
			ok, e := f(a)
			return e, []any{ok}
		}
	}
	list := func(f func(a arguments) ([]api.Element, api.Errno)) func(a arguments) (api.Errno, []any) {
		return func(a arguments) (api.Errno, []any) {
			l, e := f(a)
			return e, []any{l}
		}
	}
	return []call{
		{"Check", "pq", func(a arguments) (api.Errno, []any) { return Check(a.P, a.Q), nil }},
		{"Check of Never", "pq", func(a arguments) (api.Errno, []any) { return Check(a.P, a.V), nil }},
		{"ValidState", "pa", func(a arguments) (api.Errno, []any) { return ValidState(a.P, a.A), nil }},
		{"Abstract", "pe", func(a arguments) (api.Errno, []any) {
			l, e := Abstract(a.P, a.E)
			return e, []any{l}
		}},
		{"Represents", "pae", decision(func(a arguments) (bool, api.Errno) { return Represents(a.P, a.A, a.E) })},
		{"Initial", "pq", list(func(a arguments) ([]api.Element, api.Errno) { return Initial(a.P, a.Q) })},
		{"Initial of Never", "pq", list(func(a arguments) ([]api.Element, api.Errno) { return Initial(a.P, a.V) })},
		{"Enabled", "pra", decision(func(a arguments) (bool, api.Errno) { return Enabled(a.P, a.Rule, a.A) })},
		{"Post", "pra", list(func(a arguments) ([]api.Element, api.Errno) { return Post(a.P, a.Rule, a.A) })},
		{"Reached", "pqka", decision(func(a arguments) (bool, api.Errno) { return Reached(a.P, a.Q, a.A) })},
		{"Reach", "pq", list(func(a arguments) ([]api.Element, api.Errno) { return Reach(a.P, a.Q) })},
		{"Reach of Never", "pq", list(func(a arguments) ([]api.Element, api.Errno) { return Reach(a.P, a.V) })},
		{"Safe", "pqk", decision(func(a arguments) (bool, api.Errno) { return Safe(a.P, a.V) })},
		{"Weight", "pwe", func(a arguments) (api.Errno, []any) {
			n, e := Weight(a.P, a.W, a.E)
			return e, []any{n}
		}},
		{"Raising", "pwr", decision(func(a arguments) (bool, api.Errno) { return Raising(a.P, a.W, a.Rule) })},
		{"Lowering", "pwr", decision(func(a arguments) (bool, api.Errno) { return Lowering(a.P, a.W, a.Rule) })},
		{"Moves", "prs", decision(func(a arguments) (bool, api.Errno) { return Moves(a.P, a.Rule, a.State) })},
		{"Helpful", "pqkw", func(a arguments) (api.Errno, []any) {
			l, e := Helpful(a.P, a.Q, a.W)
			return e, []any{l}
		}},
		{"CheckWeights", "pqkwb", decision(func(a arguments) (bool, api.Errno) { return CheckWeights(a.P, a.Q, a.W), api.OK })},
		{"FindWeights", "pqkm", func(a arguments) (api.Errno, []any) {
			l, ok, e := FindWeights(a.P, a.Q, a.Most)
			return e, []any{l, ok}
		}},
	}
}

func (c call) does(letter byte) bool { return strings.IndexByte(c.takes, letter) >= 0 }

// right returns arguments without errors. W shows that Q holds, and V is safe.
func right(t testing.TB) arguments {
	t.Helper()
	p := family(t, "protocol three\ntopology clique\nstates a b c\nvalues lo hi\ninitial a b\nrule down local b c\nrule back broadcast c c all a b c write hi\nrule more local a c\n")
	a := arguments{P: p, Q: property(t, p, "property q eventually start b goal c"), V: property(t, p, "property v never start b count 1 a")}
	a.W, a.A, a.E = ints(2, 1, 0), element(1, 0, 0, 2), element(1, 0, 0, 7)
	a.Rule, a.State, a.Most = 1, 2, 2
	return cloned(a)
}

// spoils changes arguments, so that the calls that take what is changed have the error want.
type spoils struct {
	change func(a *arguments)
	taken  byte
	want   api.Errno
}

// spoilers are in the order in which their errors come.
func spoilers() []spoils {
	return []spoils{
		{func(a *arguments) { a.P.Name = "" }, 'p', api.ErrName},
		{func(a *arguments) { a.Q.Start, a.V.Start = ints(3), ints(-1) }, 'q', api.ErrState},
		{func(a *arguments) { a.P.Fault = api.Crash }, 'p', api.ErrClass},
		{func(a *arguments) { a.Q, a.V = a.V, a.Q }, 'k', api.ErrClass},
		{func(a *arguments) { a.W = a.W[:2] }, 'w', api.ErrArg},
		{func(a *arguments) { a.Rule = 3 }, 'r', api.ErrRule},
		{func(a *arguments) { a.State = 3 }, 's', api.ErrState},
		{func(a *arguments) { a.A.Counts[1] = 3 }, 'a', api.ErrArg},
		{func(a *arguments) { a.E.Value = 2 }, 'e', api.ErrArg},
		{func(a *arguments) { a.Most = 4 }, 'm', api.ErrArg},
	}
}

// R1, R2, R3, P9.1, P9.2: the errors in their order, with zero results, for all combinations of them.
func TestCommonErrors(t *testing.T) {
	good := right(t)
	for chosen := range 1 << len(spoilers()) {
		for _, c := range calls() {
			a := cloned(good)
			want := api.OK
			for i, x := range spoilers() {
				if chosen>>i&1 == 0 {
					continue
				}
				x.change(&a)
				if want == api.OK && c.does(x.taken) {
					want = x.want
				}
			}
			checkError(t, c, a, want)
		}
	}
}

// checkError wants an error of a call, and with it zero results. Where there is no error result, false stands for an error.
func checkError(t *testing.T, c call, a arguments, want api.Errno) {
	t.Helper()
	e, results := c.run(a)
	if c.does('b') {
		if results[0] != (want == api.OK) {
			t.Errorf("%s: %v with the error %d", c.name, results[0], want)
		}
		return
	}
	if e != want {
		t.Errorf("%s: error %d, not %d", c.name, e, want)
	}
	for _, result := range results {
		if want != api.OK && !isZero(result) {
			t.Errorf("%s: %v with the error %d", c.name, result, e)
		}
	}
}

// P9.1: which families the functions are for.
func TestClasses(t *testing.T) {
	const allText = "protocol whole\ntopology clique\nstates a b c d\ninitial a\nrule r local a b forall a\n"
	ring := "protocol round\ntopology ring\nstates a b c\ninitial a\nrule r neighbor a b\n"
	for i, x := range []struct {
		text string
		want api.Errno
	}{
		{mxText, api.OK},
		{kindsText, api.OK},
		{castText, api.OK},
		{fourText, api.OK},
		{allText, api.OK},
		{replaced(t, allText, "c d", "c d e"), api.ErrClass},
		{replaced(t, allText, "c d", "c d e f"), api.ErrClass},
		{replaced(t, fourText, "c d", "c d e"), api.ErrClass},
		{replaced(t, allText, "initial", "messages m\ninitial"), api.ErrClass},
		{replaced(t, allText, "initial", "resilience n\ninitial"), api.ErrClass},
		{replaced(t, allText, "initial", "faults crash\ninitial"), api.ErrClass},
		{replaced(t, allText, "initial", "faults omission\ninitial"), api.ErrClass},
		{replaced(t, allText, "initial", "faults arbitrary\ninitial"), api.ErrClass},
		{ring, api.ErrClass},
		{replaced(t, ring, "ring\nst", "line\nst"), api.ErrClass},
		{replaced(t, ring, "ring\nst", "tree\nst"), api.ErrClass},
	} {
		p := family(t, x.text)
		counts := make([]int, len(p.States))
		counts[0] = 1
		all := strings.Join(p.States, " ")
		a := arguments{P: p, Q: property(t, p, "property q eventually goal "+all), V: property(t, p, "property v never count 1 "+p.States[1]), W: make([]int, len(p.States))}
		a.A, a.E = element(0, counts...), element(0, counts...)
		for _, c := range calls() {
			e, results := c.run(a)
			if e != x.want && !c.does('b') {
				t.Errorf("%d: %s: error %d, not %d", i, c.name, e, x.want)
			}
			if c.does('b') && results[0] != (x.want == api.OK) {
				t.Errorf("%d: %s is %v", i, c.name, results[0])
			}
		}
	}
}

// P9.1: the functions for one kind of properties refuse the other one.
func TestKinds(t *testing.T) {
	a := right(t)
	a.Q, a.V = a.V, a.Q
	for _, c := range calls() {
		want := api.OK
		if c.does('k') {
			want = api.ErrClass
		}
		checkError(t, c, a, want)
	}
	// Every process is in no state of the goal, and weights would be accepted if there were one.
	p := family(t, abText)
	never := property(t, p, "property v never count 1 b")
	if CheckWeights(p, never, ints(1, 0)) || CheckWeights(p, never, ints(0, 0)) {
		t.Error("weights for a Never property")
	}
}

// P9.2, P9.6, P9.8: which rules, weights and configurations have no error, at their limits.
func TestLimits(t *testing.T) {
	good := right(t)
	for i, x := range []struct {
		change func(a *arguments)
		taken  byte
		want   api.Errno
	}{
		{func(a *arguments) { a.Rule = 0 }, 'r', api.OK},
		{func(a *arguments) { a.Rule = 2 }, 'r', api.OK},
		{func(a *arguments) { a.Rule = -1 }, 'r', api.ErrRule},
		{func(a *arguments) { a.Rule = minInt }, 'r', api.ErrRule},
		{func(a *arguments) { a.Rule = maxInt }, 'r', api.ErrRule},
		{func(a *arguments) { a.P.Rules = nil; a.Rule = 0 }, 'r', api.ErrRule},
		{func(a *arguments) { a.State = 0 }, 's', api.OK},
		{func(a *arguments) { a.State = -1 }, 's', api.ErrState},
		{func(a *arguments) { a.State = maxInt }, 's', api.ErrState},
		{func(a *arguments) { a.State = minInt }, 's', api.ErrState},
		{func(a *arguments) { a.Most = 0 }, 'm', api.OK},
		{func(a *arguments) { a.Most = 3 }, 'm', api.OK},
		{func(a *arguments) { a.Most = -1 }, 'm', api.ErrArg},
		{func(a *arguments) { a.Most = minInt }, 'm', api.ErrArg},
		{func(a *arguments) { a.Most = maxInt }, 'm', api.ErrArg},
		{func(a *arguments) { a.W = ints(0, 1, 0) }, 'w', api.OK},
		{func(a *arguments) { a.W = ints(6, 6, 0) }, 'w', api.OK},
		{func(a *arguments) { a.W = ints(7, 1, 1) }, 'w', api.ErrArg},
		{func(a *arguments) { a.W = ints(2, 1, 7) }, 'w', api.ErrArg},
		{func(a *arguments) { a.W = ints(2, -1, 1) }, 'w', api.ErrArg},
		{func(a *arguments) { a.W = ints(2, 1, minInt) }, 'w', api.ErrArg},
		{func(a *arguments) { a.W = ints(maxInt, 1, 1) }, 'w', api.ErrArg},
		{func(a *arguments) { a.W = nil }, 'w', api.ErrArg},
		{func(a *arguments) { a.W = ints(2, 1) }, 'w', api.ErrArg},
		{func(a *arguments) { a.W = ints(2, 1, 1, 0) }, 'w', api.ErrArg},
		{func(a *arguments) { a.A = element(0, 2, 2, 2) }, 'a', api.OK},
		{func(a *arguments) { a.A = element(1, 0, 1, 0) }, 'a', api.OK},
		{func(a *arguments) { a.A = element(0, 0, 0, 0) }, 'a', api.ErrArg},
		{func(a *arguments) { a.A = element(0, 3, 0, 0) }, 'a', api.ErrArg},
		{func(a *arguments) { a.A = element(0, 1, 0, api.MaxParameter) }, 'a', api.ErrArg},
		{func(a *arguments) { a.A = element(0, 1, 0, maxInt) }, 'a', api.ErrArg},
		{func(a *arguments) { a.A = element(0, 1, -1, 1) }, 'a', api.ErrArg},
		{func(a *arguments) { a.A = element(0, 1, minInt, 1) }, 'a', api.ErrArg},
		{func(a *arguments) { a.A = element(2, 1, 0, 1) }, 'a', api.ErrArg},
		{func(a *arguments) { a.A = element(-1, 1, 0, 1) }, 'a', api.ErrArg},
		{func(a *arguments) { a.A = element(0, 1, 1) }, 'a', api.ErrArg},
		{func(a *arguments) { a.A = element(0, 1, 1, 1, 0) }, 'a', api.ErrArg},
		{func(a *arguments) { a.A = element(0) }, 'a', api.ErrArg},
		{func(a *arguments) { a.E = element(0, 0, 1, 0) }, 'e', api.OK},
		{func(a *arguments) { a.E = element(1, api.MaxParameter, api.MaxParameter, api.MaxParameter) }, 'e', api.OK},
		{func(a *arguments) { a.E = element(1, 0, 0, api.MaxParameter+1) }, 'e', api.ErrArg},
		{func(a *arguments) { a.E = element(1, maxInt, 0, 1) }, 'e', api.ErrArg},
		{func(a *arguments) { a.E = element(1, 0, 0, 0) }, 'e', api.ErrArg},
		{func(a *arguments) { a.E = element(1, 4, -1, 0) }, 'e', api.ErrArg},
		{func(a *arguments) { a.E = element(2, 1, 0, 0) }, 'e', api.ErrArg},
		{func(a *arguments) { a.E = element(-1, 1, 0, 0) }, 'e', api.ErrArg},
		{func(a *arguments) { a.E = element(0, 1, 0) }, 'e', api.ErrArg},
		{func(a *arguments) { a.E = element(0, 1, 0, 0, 0) }, 'e', api.ErrArg},
		{func(a *arguments) { a.E = element(0) }, 'e', api.ErrArg},
	} {
		a := cloned(good)
		x.change(&a)
		for _, c := range calls() {
			want := x.want
			if !c.does(x.taken) {
				want = api.OK
			}
			if e, _ := c.run(a); e != want && !c.does('b') {
				t.Errorf("%d: %s: error %d, not %d", i, c.name, e, want)
			}
			if c.does(x.taken) {
				checkError(t, c, a, want)
			}
		}
	}
	// Without values the value is 0 alone.
	p := family(t, abText)
	for value, want := range []api.Errno{api.OK, api.ErrArg} {
		if e := ValidState(p, element(value, 1, 2)); e != want {
			t.Errorf("error %d, not %d", e, want)
		}
		if _, e := Abstract(p, element(value, 1, 3)); e != want {
			t.Errorf("error %d, not %d", e, want)
		}
	}
}

// R5: no argument is changed, and results share memory neither with arguments nor among themselves.
func TestMemory(t *testing.T) {
	good := right(t)
	small := cloned(good)
	small.E = element(1, 0, 0, 1)
	start := cloned(good)
	start.A, start.E, start.Rule = element(0, 2, 2, 0), element(0, 2, 2, 0), 0
	for _, first := range []arguments{good, small, start} {
		for _, c := range calls() {
			a := cloned(first)
			before := cloned(a)
			if e, results := c.run(a); e != api.OK || !same(a, before) {
				t.Errorf("%s changes an argument, or the error %d", c.name, e)
			} else if !apart(append(results, a)...) {
				t.Errorf("%s: the result shares memory", c.name)
			}
		}
	}
}

// R4: a nil slice and an empty one are the same.
func TestNilAndEmpty(t *testing.T) {
	for _, c := range calls() {
		a := right(t)
		a.Q.Start, a.Q.Bad, a.Q.Adjacent, a.V.Start, a.V.Goal = nil, nil, nil, nil, nil
		a.P.Messages, a.P.Resilience, a.P.Leader, a.P.Rules[0].Exists, a.P.Rules[0].Forall = nil, nil, nil, nil, nil
		b := cloned(a)
		b.Q.Start, b.Q.Bad, b.Q.Adjacent, b.V.Start, b.V.Goal = []int{}, []api.Count{}, []int{}, []int{}, []int{}
		b.P.Messages, b.P.Resilience, b.P.Leader, b.P.Rules[0].Exists, b.P.Rules[0].Forall = []string{}, []api.Linear{}, []int{}, []int{}, []int{}
		e, results := c.run(a)
		e2, results2 := c.run(b)
		if e != api.OK || e2 != api.OK || !same(results, results2) {
			t.Errorf("%s: error %d %v, error %d %v", c.name, e, results, e2, results2)
		}
		a.W, a.A.Counts, a.E.Counts, a.P.Rules = nil, nil, nil, nil
		b.W, b.A.Counts, b.E.Counts, b.P.Rules = []int{}, []int{}, []int{}, []api.Rule{}
		e, results = c.run(a)
		e2, results2 = c.run(b)
		if e != e2 || !same(results, results2) {
			t.Errorf("%s with nothing: error %d %v, error %d %v", c.name, e, results, e2, results2)
		}
	}
}

// R6, R11: no function panics, changes an argument or gives two answers to one question.
func TestAnyArguments(t *testing.T) {
	x := newSource(1)
	list := calls()
	valid := 0
	for range 8000 {
		a := x.arguments(t)
		for range x.IntN(4) {
			x.disturb(&a)
		}
		if protocol.ValidateProperty(a.P, a.Q) == api.OK {
			valid++
		}
		before := cloned(a)
		c := list[x.IntN(len(list))]
		e, results := c.run(a)
		e2, results2 := c.run(cloned(a))
		if e != e2 || !same(results, results2) {
			t.Fatalf("%s: error %d, %v, and then error %d, %v: %+v", c.name, e, results, e2, results2, a)
		}
		if !same(a, before) {
			t.Fatalf("%s changes an argument: %+v", c.name, before)
		}
		if !apart(append(results, a)...) {
			t.Fatalf("%s: the result shares memory: %+v", c.name, before)
		}
	}
	if valid < 2000 {
		t.Error(valid)
	}
}

// arguments returns arguments that are mostly valid.
func (x source) arguments(t testing.TB) arguments {
	p := x.family(t, 4, 4)
	a := arguments{P: p, Q: x.property(t, p, api.Eventually), V: x.property(t, p, api.Never), W: x.weights(p, 6), E: x.element(p, 9)}
	a.A = plainAbstract(x.element(p, 6))
	a.Rule, a.State, a.Most = x.between(-1, len(p.Rules)), x.between(-1, len(p.States)), x.between(-1, 4)
	return cloned(a)
}
