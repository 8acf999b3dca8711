package word

import (
	"strings"
	"testing"

	"familycheck/api"
	"familycheck/protocol"
)

// arguments has one argument for each parameter of the package's functions.
type arguments struct {
	P                           api.Protocol
	Q                           api.Property
	A, B                        api.Automaton
	T, U                        api.Transducer
	V, W                        []int
	Length, Depth, Rounds, Rule int
}

// call is an exported function; run returns its error, or OK if it has none, and its other results.
type call struct {
	name  string
	takes string // the arguments whose errors it returns: p, q, a, b, t, u, v, w, l (a length), d (a depth), n (a number of rounds) and r (a rule); s if it returns ErrLarge for the subsets of a, m for those of b; i and c for the products of Image and Compose; x if it returns false instead of errors
	run   func(a arguments) (api.Errno, []any)
}

func calls() []call {
	one := func(f func(a arguments) api.Errno) func(a arguments) (api.Errno, []any) {
		return func(a arguments) (api.Errno, []any) { return f(a), nil }
	}
	automaton := func(f func(a arguments) (api.Automaton, api.Errno)) func(a arguments) (api.Errno, []any) {
		return func(a arguments) (api.Errno, []any) {
			x, e := f(a)
			return e, []any{x}
		}
	}
	transducer := func(f func(a arguments) (api.Transducer, api.Errno)) func(a arguments) (api.Errno, []any) {
		return func(a arguments) (api.Errno, []any) {
			x, e := f(a)
			return e, []any{x}
		}
	}
	decision := func(f func(a arguments) (bool, api.Errno)) func(a arguments) (api.Errno, []any) {
		return func(a arguments) (api.Errno, []any) {
			ok, e := f(a)
			return e, []any{ok}
		}
	}
	return []call{
		{"Validate", "a", one(func(a arguments) api.Errno { return Validate(a.A) })},
		{"Accepts", "aw", decision(func(a arguments) (bool, api.Errno) { return Accepts(a.A, a.W) })},
		{"Minimal", "as", automaton(func(a arguments) (api.Automaton, api.Errno) { return Minimal(a.A) })},
		{"Complement", "as", automaton(func(a arguments) (api.Automaton, api.Errno) { return Complement(a.A) })},
		{"Union", "absm", automaton(func(a arguments) (api.Automaton, api.Errno) { return Union(a.A, a.B) })},
		{"Intersect", "absm", automaton(func(a arguments) (api.Automaton, api.Errno) { return Intersect(a.A, a.B) })},
		{"Shortest", "a", func(a arguments) (api.Errno, []any) {
			w, found, e := Shortest(a.A)
			return e, []any{w, found}
		}},
		{"Included", "absm", func(a arguments) (api.Errno, []any) {
			yes, w, e := Included(a.A, a.B)
			return e, []any{yes, w}
		}},
		{"Same", "absm", decision(func(a arguments) (bool, api.Errno) { return Same(a.A, a.B) })},
		{"Words", "al", func(a arguments) (api.Errno, []any) {
			list, e := Words(a.A, a.Length)
			return e, []any{list}
		}},
		{"ValidateTransducer", "t", one(func(a arguments) api.Errno { return ValidateTransducer(a.T) })},
		{"Relates", "tvw", decision(func(a arguments) (bool, api.Errno) { return Relates(a.T, a.V, a.W) })},
		{"Inverse", "t", transducer(func(a arguments) (api.Transducer, api.Errno) { return Inverse(a.T) })},
		{"Compose", "tuc", transducer(func(a arguments) (api.Transducer, api.Errno) { return Compose(a.T, a.U) })},
		{"Image", "tais", automaton(func(a arguments) (api.Automaton, api.Errno) { return Image(a.T, a.A) })},
		{"Check", "pq", one(func(a arguments) api.Errno { return Check(a.P, a.Q) })},
		{"StepRelation", "p", transducer(func(a arguments) (api.Transducer, api.Errno) { return StepRelation(a.P) })},
		{"RuleRelation", "pr", transducer(func(a arguments) (api.Transducer, api.Errno) { return RuleRelation(a.P, a.Rule) })},
		{"InitialWords", "pq", automaton(func(a arguments) (api.Automaton, api.Errno) { return InitialWords(a.P, a.Q) })},
		{"BadWords", "pq", automaton(func(a arguments) (api.Automaton, api.Errno) { return BadWords(a.P, a.Q) })},
		{"Merge", "ads", automaton(func(a arguments) (api.Automaton, api.Errno) { return Merge(a.A, a.Depth) })},
		{"Forward", "pqdn", func(a arguments) (api.Errno, []any) {
			x, done, e := Forward(a.P, a.Q, a.Depth, a.Rounds)
			return e, []any{x, done}
		}},
		{"CheckRule", "pqrax", decision(func(a arguments) (bool, api.Errno) { return CheckRule(a.P, a.Q, a.A, a.Rule), api.OK })},
		{"CheckAutomaton", "pqax", decision(func(a arguments) (bool, api.Errno) { return CheckAutomaton(a.P, a.Q, a.A), api.OK })},
		{"Prove", "pqdn", func(a arguments) (api.Errno, []any) {
			kind, x, e := Prove(a.P, a.Q, a.Depth, a.Rounds)
			return e, []any{kind, x}
		}},
	}
}

// right returns arguments without errors. The property holds, and A shows it.
func right(t testing.TB) arguments {
	t.Helper()
	p := family(t, tokText)
	a := arguments{P: p, Q: property(t, p, "property q never count 2 tk"), A: oneToken(), B: far(2), T: later(), U: identity(2)}
	a.V, a.W, a.Length, a.Depth, a.Rounds = word("0100"), word("0101"), 3, 2, 5
	return cloned(a)
}

// spoils changes arguments, so that the calls that take what is changed have the error want.
type spoils struct {
	change func(a *arguments)
	taken  string // one of these has to be taken
	want   api.Errno
}

// spoilers are in the order in which their errors come.
func spoilers() []spoils {
	return []spoils{
		{func(a *arguments) { a.P.Name = "" }, "p", api.ErrName},
		{func(a *arguments) { a.Q.Start = ints(2) }, "q", api.ErrState},
		{func(a *arguments) { a.P.Topology = api.Clique; a.P.Rules = nil; a.P.Leader = nil }, "p", api.ErrClass},
		{func(a *arguments) { a.Q.Kind, a.Q.Bad, a.Q.Goal = api.Eventually, nil, ints(0) }, "q", api.ErrClass},
		{func(a *arguments) { a.Rule = 1 }, "r", api.ErrRule},
		{func(a *arguments) { a.A.Edges[1].To = a.A.States }, "a", api.ErrArg},
		{func(a *arguments) { a.B.Letters = 9 }, "b", api.ErrArg},
		{func(a *arguments) { a.T.Start = ints(400) }, "t", api.ErrArg},
		{func(a *arguments) { a.U.States = 401 }, "u", api.ErrArg},
		{func(a *arguments) { a.V = ints(0, 2) }, "v", api.ErrArg},
		{func(a *arguments) { a.W = ints(-1) }, "w", api.ErrArg},
		{func(a *arguments) { a.Length = 7 }, "l", api.ErrArg},
		{func(a *arguments) { a.Depth = 9 }, "d", api.ErrArg},
		{func(a *arguments) { a.Rounds = 101 }, "n", api.ErrArg},
		{func(a *arguments) { a.A = spoiled(a.A, far(9)) }, "s", api.ErrLarge},
		{func(a *arguments) { a.B = spoiled(a.B, far(9)) }, "m", api.ErrLarge},
		{func(a *arguments) { a.T.States = 400 }, "ci", api.ErrLarge},
	}
}

// spoiled returns other, with the error of a if it has one.
func spoiled(a, other api.Automaton) api.Automaton {
	if Validate(a) != api.OK {
		other.Edges[0].To = -1
	}
	return other
}

// R1, R2, R3, P6.1, P6.6, P6.8: the errors in their order, with zero results, for all pairs and triples of them.
func TestCommonErrors(t *testing.T) {
	list := spoilers()
	for i := range list {
		for j := i; j < len(list); j++ {
			for k := j; k < len(list); k++ {
				for _, c := range calls() {
					a := right(t)
					a.U.States, a.A.States = 11, 11 // with 400 states of T too many
					want := api.OK
					for _, at := range []int{i, j, k} {
						list[at].change(&a)
						if want == api.OK && strings.ContainsAny(c.takes, list[at].taken) {
							want = list[at].want
						}
					}
					checkError(t, c, a, want)
				}
			}
		}
	}
}

// checkError wants an error of a call, and with it zero results. Where there is no error result, false stands for an error.
func checkError(t *testing.T, c call, a arguments, want api.Errno) {
	t.Helper()
	e, results := c.run(a)
	if strings.Contains(c.takes, "x") {
		if want != api.OK && results[0] != false {
			t.Errorf("%s: accepted with the error %d", c.name, want)
		}
		return
	}
	if e != want {
		t.Errorf("%s: error %d, not %d", c.name, e, want)
	}
	for _, result := range results {
		if want != api.OK && !isZero(result) {
			t.Errorf("%s: %v with the error %d", c.name, result, e)
		}
	}
}

// P6.13, R2: CheckRule and CheckAutomaton return false instead of an error.
func TestFalseWithErrors(t *testing.T) {
	for i, x := range spoilers() {
		a := right(t)
		x.change(&a)
		own := strings.ContainsAny("pqas", x.taken) // far(9) is no proof either
		if CheckAutomaton(a.P, a.Q, a.A) == own || CheckRule(a.P, a.Q, a.A, a.Rule) == (own || x.taken == "r") {
			t.Error(i)
		}
	}
}

// R5: no argument is changed, and results share memory neither with arguments nor among themselves.
func TestMemory(t *testing.T) {
	for _, c := range calls() {
		a := right(t)
		before := cloned(a)
		e, results := c.run(a)
		if e != api.OK || !same(a, before) {
			t.Errorf("%s changes an argument, or the error %d", c.name, e)
		}
		if !apart(append(results, a)...) {
			t.Errorf("%s: the result shares memory", c.name)
		}
	}
}

// R4: a nil slice and an empty one are the same.
func TestNilAndEmpty(t *testing.T) {
	none := api.Automaton{Letters: 2, Start: []int{}, Accept: []int{}, Edges: []api.Edge{}}
	if a, e := Minimal(none); e != api.OK || !same(a, accepted(t)(Minimal(api.Automaton{Letters: 2}))) {
		t.Error(a, e)
	}
	if ok, e := Accepts(chain(2, 0), []int{}); e != api.OK || !ok {
		t.Error(ok, e)
	}
	for _, u := range [][]int{nil, {}} {
		for _, v := range [][]int{nil, {}} {
			if ok, e := Relates(identity(1), u, v); e != api.OK || !ok {
				t.Error(ok, e)
			}
		}
	}
	nothing := api.Transducer{Letters: 2, States: 1, Start: []int{}, Accept: []int{}, Moves: []api.Move{}}
	if back, e := Inverse(nothing); e != api.OK || !same(back, nothing) {
		t.Error(back, e)
	}
	a := right(t)
	full := a.P
	full.Messages, full.Values, full.Resilience = []string{}, []string{}, []api.Linear{}
	full.Rules = cloned(full.Rules)
	full.Rules[0].Left, full.Rules[0].Response, full.Rules[0].Guards = []int{}, []int{}, []api.Threshold{}
	a.Q.Start, a.Q.Adjacent, a.Q.Goal = []int{}, []int{}, []int{}
	if !CheckAutomaton(full, a.Q, a.A) || !same(related(t)(StepRelation(full)), related(t)(StepRelation(a.P))) {
		t.Error("empty slices")
	}
	r := family(t, ringText)
	r.Rules[0].Left, r.Rules[0].Right, r.Rules[1].Right = []int{}, []int{}, []int{}
	if !same(related(t)(StepRelation(r)), related(t)(StepRelation(family(t, ringText)))) {
		t.Error("no demands")
	}
}

// R6, R11: no function panics, changes an argument or gives two answers to one question.
func TestAnyArguments(t *testing.T) {
	x := newSource(1)
	list := calls()
	valid := 0
	for range 20000 {
		a := x.arguments(t)
		for range x.IntN(4) {
			x.disturb(&a)
		}
		if protocol.ValidateProperty(a.P, a.Q) == api.OK {
			valid++
		}
		before := cloned(a)
		c := list[x.IntN(len(list))]
		e, results := c.run(a)
		e2, results2 := c.run(cloned(a))
		if e != e2 || !same(results, results2) {
			t.Fatalf("%s: error %d, %v, and then error %d, %v: %+v", c.name, e, results, e2, results2, a)
		}
		if e != api.OK && !isZero(results) && len(results) > 0 {
			for _, result := range results {
				if !isZero(result) {
					t.Fatalf("%s: %v with the error %d", c.name, result, e)
				}
			}
		}
		if !same(a, before) {
			t.Fatalf("%s changes an argument: %+v", c.name, before)
		}
		if !apart(append(results, a)...) {
			t.Fatalf("%s: the result shares memory: %+v", c.name, before)
		}
	}
	if valid < 3000 {
		t.Error(valid)
	}
}

// arguments returns arguments that are mostly valid.
func (x source) arguments(t testing.TB) arguments {
	p := x.family(t, 4, 3)
	letters := len(p.States)
	a := arguments{P: p, Q: x.property(t, p), A: x.automaton(letters, 5), B: x.complete(letters, 4), T: x.transducer(letters, 4), U: x.transducer(letters, 3)}
	if x.IntN(2) == 0 {
		a.A = x.complete(letters, 3)
	}
	a.V, a.W = x.word(letters, 3), x.word(letters, x.between(2, 4))
	a.Length, a.Depth, a.Rounds, a.Rule = x.between(-1, 5), x.between(-1, 4), x.between(-1, 6), x.between(-1, len(p.Rules))
	return cloned(a)
}
