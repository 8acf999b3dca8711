package invariant

import (
	"math/bits"
	"slices"
	"strings"
	"testing"

	"familycheck/api"
	"familycheck/protocol"
)

// arguments has one argument for each parameter of the package's functions.
type arguments struct {
	P          api.Protocol
	Q          api.Property
	C, D       api.Clause
	L, M       []api.Clause // M is assumed
	E          api.Element
	F          []api.Element
	Rule, Most int
	Text       string
}

// call is an exported function; run returns its error, or OK if it has none, and its other results.
type call struct {
	name  string
	takes string // the arguments whose errors it returns: p, q, r (a rule), l, m (assumed clauses), c, e, f (elements), n (for Elements), u (for sizes) and t (a text); b returns false instead of errors
	run   func(a arguments) (api.Errno, []any)
}

func calls() []call {
	one := func(f func(a arguments) api.Errno) func(a arguments) (api.Errno, []any) {
		return func(a arguments) (api.Errno, []any) { return f(a), nil }
	}
	list := func(f func(a arguments) ([]api.Clause, api.Errno)) func(a arguments) (api.Errno, []any) {
		return func(a arguments) (api.Errno, []any) {
			l, e := f(a)
			return e, []any{l}
		}
	}
	decision := func(f func(a arguments) (bool, api.Errno)) func(a arguments) (api.Errno, []any) {
		return func(a arguments) (api.Errno, []any) {
			ok, e := f(a)
			return e, []any{ok}
		}
	}
	return []call{
		{"Check", "pq", one(func(a arguments) api.Errno { return Check(a.P, a.Q) })},
		{"ValidClause", "pc", one(func(a arguments) api.Errno { return ValidClause(a.P, a.C) })},
		{"HoldsIn", "pce", decision(func(a arguments) (bool, api.Errno) { return HoldsIn(a.P, a.C, a.E) })},
		{"Rank", "", func(a arguments) (api.Errno, []any) { return api.OK, []any{Rank(a.L)} }},
		{"CompareClause", "", func(a arguments) (api.Errno, []any) { return api.OK, []any{CompareClause(a.C, a.D)} }},
		{"Elements", "pn", func(a arguments) (api.Errno, []any) {
			l, e := Elements(a.P, a.Most)
			return e, []any{l}
		}},
		{"InitialFailure", "pql", func(a arguments) (api.Errno, []any) {
			i, e := InitialFailure(a.P, a.Q, a.L)
			return e, []any{i}
		}},
		{"StepFailure", "prlm", func(a arguments) (api.Errno, []any) {
			i, f, e := StepFailure(a.P, a.Rule, a.L, a.M)
			return e, []any{i, f}
		}},
		{"BadModel", "pql", func(a arguments) (api.Errno, []any) {
			m, ok, e := BadModel(a.P, a.Q, a.L)
			return e, []any{m, ok}
		}},
		{"CheckClauses", "pqlmb", decision(func(a arguments) (bool, api.Errno) { return CheckClauses(a.P, a.Q, a.L, a.M), api.OK })},
		{"Entails", "plc", decision(func(a arguments) (bool, api.Errno) { return Entails(a.P, a.L, a.C) })},
		{"Reduce", "pl", list(func(a arguments) ([]api.Clause, api.Errno) { return Reduce(a.P, a.L) })},
		{"Candidates", "p", list(func(a arguments) ([]api.Clause, api.Errno) { return Candidates(a.P) })},
		{"ReachedElements", "pqu", func(a arguments) (api.Errno, []any) {
			l, e := ReachedElements(a.P, a.Q, a.Most)
			return e, []any{l}
		}},
		{"Filter", "plf", list(func(a arguments) ([]api.Clause, api.Errno) { return Filter(a.P, a.L, a.F) })},
		{"Strengthen", "pqlm", list(func(a arguments) ([]api.Clause, api.Errno) { return Strengthen(a.P, a.Q, a.L, a.M) })},
		{"Generalize", "pqu", list(func(a arguments) ([]api.Clause, api.Errno) { return Generalize(a.P, a.Q, a.Most) })},
		{"Prove", "pqu", func(a arguments) (api.Errno, []any) {
			k, l, e := Prove(a.P, a.Q, a.Most)
			return e, []any{k, l}
		}},
		{"FormatClause", "pc", func(a arguments) (api.Errno, []any) {
			s, e := FormatClause(a.P, a.C)
			return e, []any{s}
		}},
		{"ParseClause", "pt", func(a arguments) (api.Errno, []any) {
			c, e := ParseClause(a.P, a.Text)
			return e, []any{c}
		}},
	}
}

func (c call) does(letter byte) bool { return strings.IndexByte(c.takes, letter) >= 0 }

// right returns arguments without errors. The property holds, and L shows it with M.
func right(t testing.TB) arguments {
	t.Helper()
	p := family(t, mxText)
	a := arguments{P: p, Q: property(t, p, "property q never start i count 2 c"), Rule: 2, Most: 3, Text: "all i|c w value=held some=w"}
	a.C, a.D = clause(t, p, "all i|w c value=held some=i|w"), clause(t, p, "all c")
	a.L, a.M = clauses(t, p, "all c c, all c value=free some=i|w"), clauses(t, p, "all c value=free")
	a.E, a.F = element(1, 1, 1, 0), elements(element(0, 2, 0, 0), element(1, 0, 1, 1))
	return cloned(a)
}

// spoils changes arguments, so that the calls that take what is changed have the error want.
type spoils struct {
	change func(a *arguments)
	taken  byte
	want   api.Errno
}

// spoilers are in the order in which their errors come.
func spoilers() []spoils {
	long := func(l []api.Clause) []api.Clause { return slices.Concat(l, make([]api.Clause, api.MaxClauses)) }
	return []spoils{
		{func(a *arguments) { a.P.Name = "" }, 'p', api.ErrName},
		{func(a *arguments) { a.Q.Start = []int{3} }, 'q', api.ErrState},
		{func(a *arguments) { a.P.Fault = api.Crash }, 'p', api.ErrClass},
		{func(a *arguments) { a.Q.Kind, a.Q.Bad, a.Q.Goal = api.Eventually, nil, []int{0} }, 'q', api.ErrClass},
		{func(a *arguments) { a.Rule = 3 }, 'r', api.ErrRule},
		{func(a *arguments) { a.Most += 6 }, 'n', api.ErrArg},
		{func(a *arguments) { a.Most += 4 }, 'u', api.ErrArg},
		{func(a *arguments) { a.L = long(a.L) }, 'l', api.ErrLarge},
		{func(a *arguments) { a.L[0].Each[0][0] = 3 }, 'l', api.ErrState},
		{func(a *arguments) { a.L[1].Some[0] = 1 }, 'l', api.ErrArg},
		{func(a *arguments) { a.M = long(a.M) }, 'm', api.ErrLarge},
		{func(a *arguments) { a.M[0].Values[0] = -1 }, 'm', api.ErrState},
		{func(a *arguments) { a.C.Each[1] = nil }, 'c', api.ErrArg},
		{func(a *arguments) { a.E.Value = 2 }, 'e', api.ErrArg},
		{func(a *arguments) { a.F[1].Counts = []int{0, 0, 0} }, 'f', api.ErrArg},
		{func(a *arguments) { a.Text = strings.Repeat("a", api.MaxText+1) }, 't', api.ErrLarge},
		{func(a *arguments) { a.Text += " " }, 't', api.ErrSyntax},
	}
}

// R1, R2, R3, P8.1, P8.2: the errors in their order, with zero results, for all combinations of up to three of them.
func TestCommonErrors(t *testing.T) {
	good := right(t)
	for chosen := range 1 << len(spoilers()) {
		if bits.OnesCount(uint(chosen)) > 3 {
			continue
		}
		for _, c := range calls() {
			a := cloned(good)
			want := api.OK
			for i, x := range spoilers() {
				if chosen>>i&1 == 0 || c.does('n') && x.taken == 'u' || c.does('u') && x.taken == 'n' {
					continue
				}
				x.change(&a)
				if want == api.OK && c.does(x.taken) {
					want = x.want
				}
			}
			checkError(t, c, a, want)
		}
	}
}

// checkError wants an error of a call, and with it zero results. Where there is no error result, false stands for an error.
func checkError(t *testing.T, c call, a arguments, want api.Errno) {
	t.Helper()
	e, results := c.run(a)
	if c.does('b') {
		if results[0] != (want == api.OK) {
			t.Errorf("%s: %v with the error %d", c.name, results[0], want)
		}
		return
	}
	if e != want {
		t.Errorf("%s: error %d, not %d", c.name, e, want)
	}
	for _, result := range results {
		if want != api.OK && !isZero(result) {
			t.Errorf("%s: %v with the error %d", c.name, result, e)
		}
	}
}

// P8.1: which families and properties the functions are for.
func TestClasses(t *testing.T) {
	const allText = "protocol whole\ntopology clique\nstates a b c d\ninitial a\nrule r local a b forall a\n"
	ring := "protocol round\ntopology ring\nstates a b c\ninitial a\nrule r neighbor a b\n"
	for i, x := range []struct {
		text string
		want api.Errno
	}{
		{mxText, api.OK},
		{kindsText, api.OK},
		{castText, api.OK},
		{fourText, api.OK},
		{allText, api.OK},
		{replaced(t, allText, "c d", "c d e"), api.ErrClass},
		{replaced(t, allText, "c d", "c d e f"), api.ErrClass},
		{replaced(t, allText, "initial", "messages m\ninitial"), api.ErrClass},
		{replaced(t, allText, "initial", "resilience n\ninitial"), api.ErrClass},
		{replaced(t, allText, "initial", "faults crash\ninitial"), api.ErrClass},
		{replaced(t, allText, "initial", "faults omission\ninitial"), api.ErrClass},
		{replaced(t, allText, "initial", "faults arbitrary\ninitial"), api.ErrClass},
		{ring, api.ErrClass},
		{replaced(t, ring, "ring\nst", "line\nst"), api.ErrClass},
		{replaced(t, ring, "ring\nst", "tree\nst"), api.ErrClass},
	} {
		p := family(t, x.text)
		a := arguments{P: p, Q: property(t, p, "property q never count 1 "+p.States[0]), E: api.Element{Counts: make([]int, len(p.States))}, Text: "all"}
		a.E.Counts[0] = 1
		for _, c := range calls() {
			want := x.want
			if !c.does('p') {
				want = api.OK
			}
			if e, _ := c.run(a); e != want && !c.does('b') {
				t.Errorf("%d: %s: error %d, not %d", i, c.name, e, want)
			}
		}
		var none []api.Clause // No configuration has no process at all.
		for state := range p.States {
			none = append(none, api.Clause{Each: [][]int{{state}}})
		}
		if ok := CheckClauses(a.P, a.Q, nil, none); ok != (x.want == api.OK) {
			t.Errorf("%d: CheckClauses is %v", i, ok)
		}
	}
}

// P8.2: the limit on the number of clauses, for each list.
func TestMaxClauses(t *testing.T) {
	good := right(t)
	for _, c := range calls() {
		for _, letter := range []byte("lm") {
			for _, x := range []struct {
				count int
				want  api.Errno
			}{{api.MaxClauses, api.OK}, {api.MaxClauses + 1, api.ErrLarge}} {
				a := cloned(good)
				list := slices.Repeat(clauses(t, a.P, "all c c"), x.count)
				a.L = list
				if letter == 'm' {
					a.L, a.M = good.L, list
				}
				if !c.does(letter) {
					x.want = api.OK
				}
				if e, _ := c.run(a); e != x.want && !c.does('b') {
					t.Errorf("%s with %d clauses in %c: error %d", c.name, x.count, letter, e)
				}
			}
		}
	}
}

// P8.9: the limit on the number of clauses together.
func TestMaxClausesTogether(t *testing.T) {
	a := right(t)
	for i, x := range []struct {
		own, assumed int
		want         bool
	}{
		{api.MaxClauses, 0, true},
		{api.MaxClauses + 1, 0, false},
		{0, api.MaxClauses, true},
		{0, api.MaxClauses + 1, false},
		{api.MaxClauses - 1, 1, true},
		{api.MaxClauses, 1, false},
		{1, api.MaxClauses - 1, true},
		{1, api.MaxClauses, false},
		{api.MaxClauses / 2, api.MaxClauses / 2, true},
		{api.MaxClauses/2 + 1, api.MaxClauses / 2, false},
	} {
		both := clauses(t, a.P, "all c c, all c value=free")
		l, assumed := repeated(both, x.own), repeated(both, x.assumed)
		if ok := CheckClauses(a.P, a.Q, l, assumed); ok != x.want {
			t.Errorf("%d: %v", i, ok)
		}
	}
}

// repeated returns so many clauses of the list and, if it ends, again from its start.
func repeated(l []api.Clause, count int) []api.Clause {
	var list []api.Clause
	for i := range count {
		list = append(list, cloned(l[i%len(l)]))
	}
	return list
}

// P8.2: of the clauses of a list the first with an error decides.
func TestFirstClause(t *testing.T) {
	good := right(t)
	bad := []api.Clause{{Each: [][]int{{1, 0}}}, {Each: [][]int{{3}}}}
	for _, c := range calls() {
		for _, letter := range []byte("lm") {
			for i, want := range []api.Errno{api.ErrArg, api.ErrState} {
				a := cloned(good)
				list := append(clauses(t, a.P, "all c"), bad[i], bad[1-i])
				if letter == 'l' {
					a.L, a.M = list, []api.Clause{bad[1-i]}
				} else {
					a.M = list
				}
				if e, _ := c.run(a); e != want && c.does(letter) && !c.does('b') {
					t.Errorf("%s with bad clauses in %c: error %d, not %d", c.name, letter, e, want)
				}
			}
		}
	}
}

// R5: no argument is changed, and results share memory neither with arguments nor among themselves.
func TestMemory(t *testing.T) {
	good := right(t)
	twice := cloned(good)
	twice.L = []api.Clause{good.L[1], good.L[0], good.L[1], good.L[0]}
	twice.P.Rules = nil
	failing := cloned(good)
	failing.M = nil
	for _, start := range []arguments{good, twice, failing} {
		for _, c := range calls() {
			a := cloned(start)
			before := cloned(a)
			e, results := c.run(a)
			if e != api.OK && len(a.P.Rules) > 0 || !same(a, before) {
				t.Errorf("%s changes an argument, or the error %d", c.name, e)
			}
			if !apart(append(results, a)...) {
				t.Errorf("%s: the result shares memory", c.name)
			}
		}
	}
}

// R5: nothing is written behind the end of a list.
func TestRoomBehind(t *testing.T) {
	for _, c := range calls() {
		a := right(t)
		l := append(cloned(a.L), clauses(t, a.P, "all w w, all i i")...)
		m := append(cloned(a.M), clauses(t, a.P, "all w w, all i i")...)
		before := cloned([][]api.Clause{l, m})
		a.L, a.M = l[:len(a.L)], m[:len(a.M)]
		if e, _ := c.run(a); e != api.OK || !same([][]api.Clause{l, m}, before) {
			t.Errorf("%s: error %d, or something is written", c.name, e)
		}
	}
}

// R4: a nil slice and an empty one are the same.
func TestNilAndEmpty(t *testing.T) {
	for _, c := range calls() {
		a := right(t)
		a.P.Rules[0].Exists, a.C.Values, a.D.Each, a.L[0].Some, a.L[0].Values, a.M[0].Some = nil, nil, nil, nil, nil, nil
		b := cloned(a)
		b.P.Messages, b.P.Rules[0].Exists, b.C.Values, b.D.Each, b.L[0].Some, b.L[0].Values, b.M[0].Some = []string{}, []int{}, []int{}, [][]int{}, []int{}, []int{}, []int{}
		e, results := c.run(a)
		e2, results2 := c.run(b)
		if e != api.OK || e2 != api.OK || !same(results, results2) {
			t.Errorf("%s: error %d %v, error %d %v", c.name, e, results, e2, results2)
		}
		a.L, a.M, a.F = nil, nil, nil
		b.L, b.M, b.F = []api.Clause{}, []api.Clause{}, []api.Element{}
		e, results = c.run(a)
		e2, results2 = c.run(b)
		if e != api.OK || e2 != api.OK || !same(results, results2) {
			t.Errorf("%s without clauses: error %d %v, error %d %v", c.name, e, results, e2, results2)
		}
	}
}

// R6, R11: no function panics, changes an argument or gives two answers to one question.
func TestAnyArguments(t *testing.T) {
	x := newSource(1)
	list := calls()
	valid := 0
	for range 6000 {
		a := x.arguments(t)
		for range x.IntN(4) {
			x.disturb(&a)
		}
		if protocol.ValidateProperty(a.P, a.Q) == api.OK {
			valid++
		}
		before := cloned(a)
		c := list[x.IntN(len(list))]
		e, results := c.run(a)
		e2, results2 := c.run(cloned(a))
		if e != e2 || !same(results, results2) {
			t.Fatalf("%s: error %d, %v, and then error %d, %v: %+v", c.name, e, results, e2, results2, a)
		}
		if !same(a, before) {
			t.Fatalf("%s changes an argument: %+v", c.name, before)
		}
		if !apart(append(results, a)...) {
			t.Fatalf("%s: the result shares memory: %+v", c.name, before)
		}
	}
	if valid < 1500 {
		t.Error(valid)
	}
}

// arguments returns arguments that are mostly valid.
func (x source) arguments(t testing.TB) arguments {
	p := x.family(t, 4, false)
	a := arguments{P: p, Q: x.property(t, p, 3), C: x.clause(p, 2), D: x.clause(p, 2), L: x.clauses(p, 2, 6), M: x.clauses(p, 2, 3), E: x.element(p, 9)}
	a.Rule, a.Most = x.between(-1, len(p.Rules)), x.between(-1, 4)
	for range x.IntN(6) {
		a.F = append(a.F, x.element(p, 6))
	}
	a.Text = plainText(p, x.clause(p, 2))
	return cloned(a)
}
