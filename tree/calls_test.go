package tree

import (
	"strings"
	"testing"

	"familycheck/api"
	"familycheck/protocol"
)

// arguments has one argument for each parameter of the package's functions.
type arguments struct {
	P                            api.Protocol
	Q                            api.Property
	A, B                         api.TreeAutomaton
	Shape, Labels                []int
	Letters, Depth, Rounds, Rule int
}

// call is an exported function; run returns its error, or OK if it has none, and its other results.
type call struct {
	name  string
	takes string // the arguments whose errors it returns: p, q, a, b, w (a tree), d (a depth), n (a number of rounds) and r (a rule); l if a has to have the letters of the family, c if it has to be complete and deterministic; s if it returns ErrLarge for the subsets of a, m for those of b; x if it returns false instead of errors
	run   func(a arguments) (api.Errno, []any)
}

func calls() []call {
	one := func(f func(a arguments) api.Errno) func(a arguments) (api.Errno, []any) {
		return func(a arguments) (api.Errno, []any) { return f(a), nil }
	}
	automaton := func(f func(a arguments) (api.TreeAutomaton, api.Errno)) func(a arguments) (api.Errno, []any) {
		return func(a arguments) (api.Errno, []any) {
			x, e := f(a)
			return e, []any{x}
		}
	}
	decision := func(f func(a arguments) (bool, api.Errno)) func(a arguments) (api.Errno, []any) {
		return func(a arguments) (api.Errno, []any) {
			ok, e := f(a)
			return e, []any{ok}
		}
	}
	return []call{
		{"Validate", "a", one(func(a arguments) api.Errno { return Validate(a.A) })},
		{"ValidTree", "x", decision(func(a arguments) (bool, api.Errno) { return ValidTree(a.Letters, a.Shape, a.Labels), api.OK })},
		{"Accepts", "aw", decision(func(a arguments) (bool, api.Errno) { return Accepts(a.A, a.Shape, a.Labels) })},
		{"Minimal", "as", automaton(func(a arguments) (api.TreeAutomaton, api.Errno) { return Minimal(a.A) })},
		{"Complement", "as", automaton(func(a arguments) (api.TreeAutomaton, api.Errno) { return Complement(a.A) })},
		{"Union", "absm", automaton(func(a arguments) (api.TreeAutomaton, api.Errno) { return Union(a.A, a.B) })},
		{"Union of three", "absm", automaton(func(a arguments) (api.TreeAutomaton, api.Errno) { return Union(a.A, a.B, a.A) })},
		{"Intersect", "absm", automaton(func(a arguments) (api.TreeAutomaton, api.Errno) { return Intersect(a.A, a.B) })},
		{"Intersect of one", "as", automaton(func(a arguments) (api.TreeAutomaton, api.Errno) { return Intersect(a.A) })},
		{"Witness", "a", func(a arguments) (api.Errno, []any) {
			shape, labels, found, e := Witness(a.A)
			return e, []any{shape, labels, found}
		}},
		{"Included", "absm", decision(func(a arguments) (bool, api.Errno) { return Included(a.A, a.B) })},
		{"Same", "absm", decision(func(a arguments) (bool, api.Errno) { return Same(a.A, a.B) })},
		{"Check", "pq", one(func(a arguments) api.Errno { return Check(a.P, a.Q) })},
		{"InitialTrees", "pq", automaton(func(a arguments) (api.TreeAutomaton, api.Errno) { return InitialTrees(a.P, a.Q) })},
		{"BadTrees", "pq", automaton(func(a arguments) (api.TreeAutomaton, api.Errno) { return BadTrees(a.P, a.Q) })},
		{"Post", "pralc", automaton(func(a arguments) (api.TreeAutomaton, api.Errno) { return Post(a.P, a.Rule, a.A) })},
		{"Merge", "ads", automaton(func(a arguments) (api.TreeAutomaton, api.Errno) { return Merge(a.A, a.Depth) })},
		{"Forward", "pqdn", func(a arguments) (api.Errno, []any) {
			x, done, e := Forward(a.P, a.Q, a.Depth, a.Rounds)
			return e, []any{x, done}
		}},
		{"CheckRule", "pqralcx", decision(func(a arguments) (bool, api.Errno) { return CheckRule(a.P, a.Q, a.A, a.Rule), api.OK })},
		{"CheckAutomaton", "pqalcx", decision(func(a arguments) (bool, api.Errno) { return CheckAutomaton(a.P, a.Q, a.A), api.OK })},
		{"Prove", "pqdn", func(a arguments) (api.Errno, []any) {
			kind, x, e := Prove(a.P, a.Q, a.Depth, a.Rounds)
			return e, []any{kind, x}
		}},
	}
}

// right returns arguments without errors. The property holds, and A shows it.
func right(t testing.TB) arguments {
	t.Helper()
	p := family(t, tokenText)
	a := arguments{P: p, Q: property(t, p, "property q never count 2 tk"), A: oneToken(), B: far(2), Letters: 2, Depth: 2, Rounds: 5, Rule: 1}
	a.Shape, a.Labels = treeOf("01,10,1,")
	return cloned(a)
}

// spoils changes arguments, so that the calls that take what is changed have the error want.
type spoils struct {
	change func(a *arguments)
	taken  string // one of these has to be taken
	want   api.Errno
}

// spoilers are in the order in which their errors come.
func spoilers() []spoils {
	return []spoils{
		{func(a *arguments) { a.P.Name = "" }, "p", api.ErrName},
		{func(a *arguments) { a.Q.Start = ints(2) }, "q", api.ErrState},
		{func(a *arguments) { a.P.Topology = api.Clique; a.P.Rules = nil; a.P.Leader = nil }, "p", api.ErrClass},
		{func(a *arguments) { a.Q.Kind, a.Q.Bad, a.Q.Goal = api.Eventually, nil, ints(0) }, "q", api.ErrClass},
		{func(a *arguments) { a.Rule = 2 }, "r", api.ErrRule},
		{func(a *arguments) { a.A.Branches[1].To = a.A.States }, "a", api.ErrArg},
		{func(a *arguments) { a.B.States = 65 }, "b", api.ErrArg},
		{func(a *arguments) { a.A.Letters, a.B.Letters = 3, 3 }, "l", api.ErrArg},
		{func(a *arguments) { a.A.Branches = a.A.Branches[:len(a.A.Branches)-1] }, "c", api.ErrArg},
		{func(a *arguments) { a.Shape = ints(2, 0) }, "w", api.ErrArg},
		{func(a *arguments) { a.Labels = ints(0, 1, 3, 0, 1) }, "w", api.ErrArg},
		{func(a *arguments) { a.Depth = 9 }, "d", api.ErrArg},
		{func(a *arguments) { a.Rounds = 101 }, "n", api.ErrArg},
		{func(a *arguments) { a.A = spoiled(a.A) }, "sc", api.ErrLarge},
		{func(a *arguments) { a.B = spoiled(a.B) }, "m", api.ErrLarge},
	}
}

// spoiled returns an automaton with too many subsets, with the letters of a and the error of a if it has one.
func spoiled(a api.TreeAutomaton) api.TreeAutomaton {
	other := far(7)
	if other.Letters = a.Letters; Validate(a) != api.OK {
		other.Branches[0].To = -1
	}
	return other
}

// R1, R2, R3, P7.1, P7.6: the errors in their order, with zero results, for all pairs and triples of them.
func TestCommonErrors(t *testing.T) {
	list := spoilers()
	for i := range list {
		for j := i; j < len(list); j++ {
			for k := j; k < len(list); k++ {
				for _, c := range calls() {
					a := right(t)
					want := api.OK
					for _, at := range []int{i, j, k} {
						list[at].change(&a)
						if want == api.OK && strings.ContainsAny(c.takes, list[at].taken) {
							want = list[at].want
						}
					}
					if want == api.ErrLarge && strings.Contains(c.takes, "c") {
						want = api.ErrArg // too many subsets are no complete and deterministic automaton either
					}
					checkError(t, c, a, want)
				}
			}
		}
	}
}

// checkError wants an error of a call, and with it zero results. Where there is no error result, false stands for an error.
func checkError(t *testing.T, c call, a arguments, want api.Errno) {
	t.Helper()
	e, results := c.run(a)
	if strings.Contains(c.takes, "x") {
		if want != api.OK && results[0] != false {
			t.Errorf("%s: accepted with the error %d", c.name, want)
		}
		return
	}
	if e != want {
		t.Errorf("%s: error %d, not %d", c.name, e, want)
	}
	for _, result := range results {
		if want != api.OK && !isZero(result) {
			t.Errorf("%s: %v with the error %d", c.name, result, e)
		}
	}
}

// P7.10, R2: CheckRule and CheckAutomaton return false instead of an error.
func TestFalseWithErrors(t *testing.T) {
	for i, x := range spoilers() {
		a := right(t)
		x.change(&a)
		own := strings.ContainsAny("pqalc", x.taken) || x.taken == "sc"
		if CheckAutomaton(a.P, a.Q, a.A) == own || CheckRule(a.P, a.Q, a.A, a.Rule) == (own || x.taken == "r") {
			t.Error(i)
		}
	}
}

// R5: no argument is changed, and results share memory neither with arguments nor among themselves.
func TestMemory(t *testing.T) {
	for _, c := range calls() {
		a := right(t)
		before := cloned(a)
		e, results := c.run(a)
		if e != api.OK || !same(a, before) {
			t.Errorf("%s changes an argument, or the error %d", c.name, e)
		}
		if !apart(append(results, a)...) {
			t.Errorf("%s: the result shares memory", c.name)
		}
	}
	list := []api.TreeAutomaton{oneToken(), far(2)}
	if _, e := Union(list...); e != api.OK || !same(list, []api.TreeAutomaton{oneToken(), far(2)}) {
		t.Error("the list of Union is changed")
	}
}

// R4: a nil slice and an empty one are the same.
func TestNilAndEmpty(t *testing.T) {
	none := api.TreeAutomaton{Letters: 2, Accept: []int{}, Leaves: []api.Leaf{}, Branches: []api.Branch{}}
	if a, e := Minimal(none); e != api.OK || !same(a, accepted(t)(Minimal(api.TreeAutomaton{Letters: 2}))) {
		t.Error(a, e)
	}
	for _, shape := range [][]int{nil, {}} {
		for _, labels := range [][]int{nil, {}} {
			if ok, e := Accepts(none, shape, labels); ok || e != api.ErrArg || ValidTree(1, shape, labels) {
				t.Error(ok, e)
			}
		}
	}
	if _, e := Union([]api.TreeAutomaton{}...); e != api.ErrArg {
		t.Error(e)
	}
	a := right(t)
	full := a.P
	full.Messages, full.Values, full.Resilience = []string{}, []string{}, []api.Linear{}
	full.Rules = cloned(full.Rules)
	full.Rules[0].Left, full.Rules[0].Response, full.Rules[0].Guards = []int{}, []int{}, []api.Threshold{}
	a.Q.Start, a.Q.Adjacent, a.Q.Goal = []int{}, []int{}, []int{}
	if !CheckAutomaton(full, a.Q, a.A) || !same(accepted(t)(Post(full, 0, a.A)), accepted(t)(Post(a.P, 0, a.A))) {
		t.Error("empty slices")
	}
	p := family(t, treeText)
	empty := cloned(p)
	for i := range empty.Rules {
		r := &empty.Rules[i]
		r.Left, r.Right, r.Parent = append([]int{}, r.Left...), append([]int{}, r.Right...), append([]int{}, r.Parent...)
	}
	q := property(t, p, "property q never count 2 a")
	first := accepted(t)(InitialTrees(p, q))
	for rule := range p.Rules {
		if !same(accepted(t)(Post(empty, rule, first)), accepted(t)(Post(p, rule, first))) {
			t.Error("no demands", rule)
		}
	}
}

// R6, R11: no function panics, changes an argument or gives two answers to one question.
func TestAnyArguments(t *testing.T) {
	x := newSource(1)
	list := calls()
	valid := 0
	for range 20000 {
		a := x.arguments(t)
		for range x.IntN(4) {
			x.disturb(&a)
		}
		if protocol.ValidateProperty(a.P, a.Q) == api.OK {
			valid++
		}
		before := cloned(a)
		c := list[x.IntN(len(list))]
		e, results := c.run(a)
		e2, results2 := c.run(cloned(a))
		if e != e2 || !same(results, results2) {
			t.Fatalf("%s: error %d, %v, and then error %d, %v: %+v", c.name, e, results, e2, results2, a)
		}
		for _, result := range results {
			if e != api.OK && !isZero(result) {
				t.Fatalf("%s: %v with the error %d", c.name, result, e)
			}
		}
		if !same(a, before) {
			t.Fatalf("%s changes an argument: %+v", c.name, before)
		}
		if !apart(append(results, a)...) {
			t.Fatalf("%s: the result shares memory: %+v", c.name, before)
		}
	}
	if valid < 3000 {
		t.Error(valid)
	}
}

// arguments returns arguments that are mostly valid.
func (x source) arguments(t testing.TB) arguments {
	p := x.family(t, 4, 3)
	letters := len(p.States)
	a := arguments{P: p, Q: x.property(t, p), A: x.automaton(letters, 5), B: x.complete(letters, 3), Letters: x.between(-1, 9)}
	if x.IntN(2) == 0 {
		a.A = x.complete(letters, 3)
	}
	tree := x.tree(letters, x.between(0, 4))
	a.Shape, a.Labels = tree.shape(), tree.labels()
	a.Depth, a.Rounds, a.Rule = x.between(-1, 4), x.between(-1, 6), x.between(-1, len(p.Rules))
	return cloned(a)
}
