package cover

import (
	"testing"

	"familycheck/api"
	"familycheck/protocol"
)

// arguments has one argument for each parameter of the package's functions.
type arguments struct {
	P            api.Protocol
	Q            api.Property
	E, F         api.Element
	L            []api.Element
	C            api.Config
	Rule, Rounds int
}

// call is an exported function; run returns its error, or OK if it has none, and its other results.
type call struct {
	name  string
	takes string // the arguments whose errors it returns: p, q, e, c, r (a rule) and n (a number of rounds); d demands that p is a cover family; b returns false instead of errors
	run   func(a arguments) (api.Errno, []any)
}

func calls() []call {
	return []call{
		{"Check", "pqd", func(a arguments) (api.Errno, []any) { return Check(a.P, a.Q), nil }},
		{"ValidElement", "pe", func(a arguments) (api.Errno, []any) { return ValidElement(a.P, a.E), nil }},
		{"Leq", "", func(a arguments) (api.Errno, []any) { return api.OK, []any{Leq(a.E, a.F)} }},
		{"Compare", "", func(a arguments) (api.Errno, []any) { return api.OK, []any{Compare(a.E, a.F)} }},
		{"Total", "", func(a arguments) (api.Errno, []any) { return api.OK, []any{Total(a.E)} }},
		{"Minimize", "", func(a arguments) (api.Errno, []any) { return api.OK, []any{Minimize(a.L)} }},
		{"Contains", "", func(a arguments) (api.Errno, []any) { return api.OK, []any{Contains(a.L, a.E)} }},
		{"Abstract", "pc", func(a arguments) (api.Errno, []any) {
			x, e := Abstract(a.P, a.C)
			return e, []any{x}
		}},
		{"Configuration", "pe", func(a arguments) (api.Errno, []any) {
			c, e := Configuration(a.P, a.E)
			return e, []any{c}
		}},
		{"Post", "pe", func(a arguments) (api.Errno, []any) {
			list, e := Post(a.P, a.E)
			return e, []any{list}
		}},
		{"PreRule", "pder", func(a arguments) (api.Errno, []any) {
			list, e := PreRule(a.P, a.Rule, a.E)
			return e, []any{list}
		}},
		{"Pre", "pde", func(a arguments) (api.Errno, []any) {
			list, e := Pre(a.P, a.E)
			return e, []any{list}
		}},
		{"BadElements", "pqd", func(a arguments) (api.Errno, []any) {
			list, e := BadElements(a.P, a.Q)
			return e, []any{list}
		}},
		{"Initial", "pqde", func(a arguments) (api.Errno, []any) {
			ok, e := Initial(a.P, a.Q, a.E)
			return e, []any{ok}
		}},
		{"Backward", "pqdn", func(a arguments) (api.Errno, []any) {
			list, ok, e := Backward(a.P, a.Q, a.Rounds)
			return e, []any{list, ok}
		}},
		{"Solve", "pqdn", func(a arguments) (api.Errno, []any) {
			r, e := Solve(a.P, a.Q, a.Rounds)
			return e, []any{r}
		}},
		{"CheckRule", "pqdrb", func(a arguments) (api.Errno, []any) { return api.OK, []any{CheckRule(a.P, a.Q, a.L, a.Rule)} }},
		{"CheckBasis", "pqdb", func(a arguments) (api.Errno, []any) { return api.OK, []any{CheckBasis(a.P, a.Q, a.L)} }},
		{"Cutoff", "pqdn", func(a arguments) (api.Errno, []any) {
			c, v, e := Cutoff(a.P, a.Q, a.Rounds)
			return e, []any{c, v}
		}},
		{"Trace", "pqdn", func(a arguments) (api.Errno, []any) {
			s, r, ok, e := Trace(a.P, a.Q, a.Rounds)
			return e, []any{s, r, ok}
		}},
	}
}

func (c call) does(letter byte) bool {
	for i := range len(c.takes) {
		if c.takes[i] == letter {
			return true
		}
	}
	return false
}

// right returns arguments without errors. The property holds, and L shows it.
func right(t testing.TB) arguments {
	t.Helper()
	p := family(t, mxText)
	a := arguments{P: p, Q: property(t, p, "property q never start i count 2 c"), Rule: 2, Rounds: 5}
	a.E, a.F = element(0, 1, 0, 2), element(0, 2, 1, 2)
	a.L = elements(element(0, 0, 0, 2), element(0, 0, 1, 1), element(0, 1, 0, 1), element(1, 0, 0, 2))
	a.C = config(1, 2, 0, 2)
	return cloned(a)
}

// violated returns arguments without errors and with a property that is violated.
func violated(t testing.TB) arguments {
	t.Helper()
	a := right(t)
	a.P.Rules[1].Read = -1
	return a
}

// spoils changes arguments, so that the calls that take what is changed have the error want.
type spoils struct {
	change func(a *arguments)
	taken  byte
	want   api.Errno
}

// spoilers are in the order in which their errors come.
func spoilers() []spoils {
	return []spoils{
		{func(a *arguments) { a.P.Name = "" }, 'p', api.ErrName},
		{func(a *arguments) { a.Q.Start = []int{3} }, 'q', api.ErrState},
		{func(a *arguments) { a.P.Rules[0].Forall = []int{0} }, 'd', api.ErrClass},
		{func(a *arguments) { a.P.Fault = api.Crash }, 'p', api.ErrClass},
		{func(a *arguments) { a.Q.Kind, a.Q.Bad, a.Q.Goal = api.Eventually, nil, []int{0} }, 'q', api.ErrClass},
		{func(a *arguments) { a.E.Value = 2 }, 'e', api.ErrArg},
		{func(a *arguments) { a.C.Correct = 0 }, 'c', api.ErrArg},
		{func(a *arguments) { a.Rule = 3 }, 'r', api.ErrRule},
		{func(a *arguments) { a.Rounds = api.MaxRounds + 1 }, 'n', api.ErrArg},
	}
}

// R1, R2, R3, P5.1, P5.2, P5.4, P5.6, P5.9, P5.12: the errors in their order, with zero results, for all combinations of them.
func TestCommonErrors(t *testing.T) {
	for _, good := range []arguments{right(t), violated(t)} {
		for chosen := range 1 << len(spoilers()) {
			for _, c := range calls() {
				a := cloned(good)
				want := api.OK
				for i, x := range spoilers() {
					if chosen>>i&1 == 0 {
						continue
					}
					x.change(&a)
					if want == api.OK && c.does(x.taken) {
						want = x.want
					}
				}
				checkError(t, c, a, want)
			}
		}
	}
}

// checkError wants an error of a call, and with it zero results. Where there is no error result, false stands for an error.
func checkError(t *testing.T, c call, a arguments, want api.Errno) {
	t.Helper()
	e, results := c.run(a)
	if c.does('b') {
		if want != api.OK && results[0] != false {
			t.Errorf("%s: accepted with the error %d", c.name, want)
		}
		return
	}
	if e != want {
		t.Errorf("%s: error %d, not %d", c.name, e, want)
	}
	for _, result := range results {
		if want != api.OK && !isZero(result) {
			t.Errorf("%s: %v with the error %d", c.name, result, e)
		}
	}
}

// P5.1: which families and properties the functions are for.
func TestClasses(t *testing.T) {
	const allText = "protocol whole\ntopology clique\nstates a b c d\ninitial a\nrule r local a b forall a\n"
	ring := "protocol round\ntopology ring\nstates a b c\ninitial a\n"
	for i, x := range []struct {
		text             string
		counted, covered api.Errno
	}{
		{mxText, api.OK, api.OK},
		{kindsText, api.OK, api.OK},
		{infectText, api.OK, api.OK},
		{sixText, api.OK, api.OK},
		{allText, api.OK, api.ErrClass},
		{forallText, api.OK, api.ErrClass},
		{replaced(t, allText, "c d", "c d e"), api.ErrClass, api.ErrClass},
		{replaced(t, replaced(t, allText, "c d", "c d e"), "forall", "exists"), api.OK, api.OK},
		{replaced(t, allText, "initial", "messages m\ninitial"), api.ErrClass, api.ErrClass},
		{replaced(t, allText, "initial", "resilience n\ninitial"), api.ErrClass, api.ErrClass},
		{replaced(t, allText, "initial", "faults crash\ninitial"), api.ErrClass, api.ErrClass},
		{replaced(t, allText, "initial", "faults omission\ninitial"), api.ErrClass, api.ErrClass},
		{replaced(t, allText, "initial", "faults arbitrary\ninitial"), api.ErrClass, api.ErrClass},
		{ring, api.ErrClass, api.ErrClass},
		{replaced(t, ring, "ring\nst", "line\nst"), api.ErrClass, api.ErrClass},
		{replaced(t, ring, "ring\nst", "tree\nst"), api.ErrClass, api.ErrClass},
	} {
		a := right(t)
		a.P = family(t, x.text)
		a.Q = property(t, a.P, "property q never count 1 "+a.P.States[0])
		a.E = api.Element{Counts: make([]int, len(a.P.States))}
		a.E.Counts[0], a.C, a.Rule = 1, config(0, 0), 0
		for _, c := range calls() {
			want := api.OK
			if c.does('p') {
				want = x.counted
			}
			if c.does('d') {
				want = x.covered
			}
			if c.name == "PreRule" && want == api.OK && len(a.P.Rules) == 0 {
				want = api.ErrRule
			}
			if e, _ := c.run(a); e != want && !c.does('b') {
				t.Errorf("%d: %s: error %d, not %d", i, c.name, e, want)
			}
		}
	}
}

// P5.1, P5.12: CheckRule and CheckBasis return false instead of an error.
func TestFalseWithErrors(t *testing.T) {
	a := right(t)
	if !CheckBasis(a.P, a.Q, a.L) || !CheckRule(a.P, a.Q, a.L, a.Rule) {
		t.Fatal("not accepted")
	}
	for i, x := range spoilers() {
		a := right(t)
		x.change(&a)
		isOwn := x.taken == 'p' || x.taken == 'q' || x.taken == 'd'
		if CheckBasis(a.P, a.Q, a.L) == isOwn || CheckRule(a.P, a.Q, a.L, a.Rule) == (isOwn || x.taken == 'r') {
			t.Error(i)
		}
	}
}

// R5: no argument is changed, and results share memory neither with arguments nor among themselves.
func TestMemory(t *testing.T) {
	for _, good := range []arguments{right(t), violated(t)} {
		for _, c := range calls() {
			a := cloned(good)
			before := cloned(a)
			e, results := c.run(a)
			if e != api.OK || !same(a, before) {
				t.Errorf("%s changes an argument, or the error %d", c.name, e)
			}
			if !apart(append(results, a)...) {
				t.Errorf("%s: the result shares memory", c.name)
			}
		}
	}
}

// R4: a nil slice and an empty one are the same.
func TestNilAndEmpty(t *testing.T) {
	a := right(t)
	a.P.Rules, a.P.Messages, a.P.Resilience, a.P.Leader, a.Q.Start, a.Q.Adjacent = nil, []string{}, []api.Linear{}, []int{}, []int{}, []int{}
	if r, e := Solve(a.P, a.Q, 0); e != api.OK || r.Verdict != api.Holds || r.Rounds != 0 || !same(r.Basis, elements(a.L[0], a.L[3])) {
		t.Error(r, e)
	}
	none, empty := element(0), api.Element{Counts: []int{}}
	if !Leq(none, empty) || !Leq(empty, none) || Compare(none, empty) != 0 || Compare(empty, none) != 0 || Total(empty) != 0 {
		t.Error("no counts")
	}
	if l := Minimize(elements(empty, none, element(0, 1))); !same(l, elements(none, element(0, 1))) {
		t.Error(l)
	}
	if l := Minimize([]api.Element{}); len(l) != 0 || len(Minimize(nil)) != 0 || Contains(nil, none) || Contains([]api.Element{}, none) {
		t.Error(l)
	}
	c := config(1, 2, 0)
	c.Shape, c.Sent, c.Faulty = []int{}, []int{}, []int{}
	if x, e := Abstract(a.P, c); e != api.OK || !same(x, element(1, 1, 0, 1)) {
		t.Error(x, e)
	}
}

// R6, R11: no function panics, changes an argument or gives two answers to one question.
func TestAnyArguments(t *testing.T) {
	x := newSource(1)
	list := calls()
	valid := 0
	for range 15000 {
		a := x.arguments(t)
		for range x.IntN(4) {
			x.disturb(&a)
		}
		if protocol.ValidateProperty(a.P, a.Q) == api.OK {
			valid++
		}
		before := cloned(a)
		c := list[x.IntN(len(list))]
		e, results := c.run(a)
		e2, results2 := c.run(cloned(a))
		if e != e2 || !same(results, results2) {
			t.Fatalf("%s: error %d, %v, and then error %d, %v: %+v", c.name, e, results, e2, results2, a)
		}
		if !same(a, before) {
			t.Fatalf("%s changes an argument: %+v", c.name, before)
		}
		if !apart(append(results, a)...) {
			t.Fatalf("%s: the result shares memory: %+v", c.name, before)
		}
	}
	if valid < 3000 {
		t.Error(valid)
	}
}

// arguments returns arguments that are mostly valid.
func (x source) arguments(t testing.TB) arguments {
	p := x.family(t, 5, x.IntN(2) == 0)
	a := arguments{P: p, Q: x.property(t, p, 3), E: x.element(p, 5), F: x.element(p, 5)}
	a.Rule, a.Rounds = x.between(-1, len(p.Rules)), x.between(-1, 6)
	for range x.IntN(6) {
		a.L = append(a.L, x.element(p, 4))
	}
	a.C = config(a.E.Value, plainStates(a.E)...)
	return cloned(a)
}
