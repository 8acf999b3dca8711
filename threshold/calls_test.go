package threshold

import (
	"cmp"
	"testing"

	"familycheck/api"
	"familycheck/protocol"
)

// arguments has one argument for each parameter of the package's functions.
type arguments struct {
	P                     api.Protocol
	Q                     api.Property
	S                     api.Size
	C                     api.Config
	R                     api.Run
	Schema, Point         []int
	Number, Choice, Nodes int
	Rule, Correct, Faulty int
	Proofs                []api.SchemaProof
}

// call is an exported function; run returns its error, or OK if it has none, and its other results.
type call struct {
	name           string
	property, size bool // whether it takes them
	run            func(a arguments) (api.Errno, []any)
}

func calls() []call {
	return []call{
		{"Check", true, false, func(a arguments) (api.Errno, []any) { return Check(a.P, a.Q), nil }},
		{"Schemas", true, false, func(a arguments) (api.Errno, []any) {
			list, e := Schemas(a.P, a.Q)
			return e, []any{list}
		}},
		{"Cases", true, false, func(a arguments) (api.Errno, []any) {
			n, e := Cases(a.P, a.Q)
			return e, []any{n}
		}},
		{"Choice", true, false, func(a arguments) (api.Errno, []any) {
			list, e := Choice(a.P, a.Q, a.Choice)
			return e, []any{list}
		}},
		{"Variables", true, false, func(a arguments) (api.Errno, []any) {
			list, e := Variables(a.P, a.Q, a.Schema)
			return e, []any{list}
		}},
		{"Build", true, false, func(a arguments) (api.Errno, []any) {
			s, e := Build(a.P, a.Q, a.Schema, a.Number)
			return e, []any{s}
		}},
		{"Order", true, false, func(a arguments) (api.Errno, []any) {
			list, e := Order(a.P, a.Q)
			return e, []any{list}
		}},
		{"Unlocked", false, true, func(a arguments) (api.Errno, []any) {
			list, e := Unlocked(a.P, a.S, a.C)
			return e, []any{list}
		}},
		{"Stopped", false, true, func(a arguments) (api.Errno, []any) {
			ok, e := Stopped(a.P, a.S, a.C)
			return e, []any{ok}
		}},
		{"Accelerate", false, true, func(a arguments) (api.Errno, []any) {
			c, steps, e := Accelerate(a.P, a.S, a.C, a.Rule, a.Correct, a.Faulty)
			return e, []any{c, steps}
		}},
		{"Concretize", true, false, func(a arguments) (api.Errno, []any) {
			s, r, e := Concretize(a.P, a.Q, a.Schema, a.Number, a.Point)
			return e, []any{s, r}
		}},
		{"Project", true, true, func(a arguments) (api.Errno, []any) {
			schema, point, e := Project(a.P, a.Q, a.S, a.R)
			return e, []any{schema, point}
		}},
		{"Fix", true, true, func(a arguments) (api.Errno, []any) {
			s, e := Fix(a.P, a.Q, a.Schema, a.Number, a.S)
			return e, []any{s}
		}},
		{"Accept", true, false, func(a arguments) (api.Errno, []any) { return api.OK, []any{Accept(a.P, a.Q, a.Proofs)} }},
		{"Prove", true, false, func(a arguments) (api.Errno, []any) {
			kind, proofs, e := Prove(a.P, a.Q, a.Nodes)
			return e, []any{kind, proofs}
		}},
	}
}

// right returns arguments without errors, and with a property of the kind that holds.
func right(t testing.TB, kind int) arguments {
	t.Helper()
	p := family(t, replaced(t, crText, "states a b c", "states a b c d")+"rule r3 local c d when 1*m >= n+1\n")
	a := arguments{P: p, S: size(3, 0, 1), Number: -1, Nodes: 100, Rule: 1, Correct: 2, Faulty: 1}
	a.Q = property(t, p, "property q never start a count 1 d")
	if kind == api.Eventually {
		a.Q = property(t, p, "property q eventually start a goal b c d")
	}
	a.C = api.Config{States: []int{0, 0, 0}, Correct: 2, Sent: []int{0}, Faulty: []int{0}}
	a.R = api.Run{Start: a.C, Steps: []api.Step{step(1, 0), step(1, 2), step(0, 0)}}
	a.Schema, a.Point = []int{0}, []int{3, 0, 1, 2, 1, 2, 1, 1, 0, 0, 0}
	found, proofs, e := Prove(a.P, a.Q, a.Nodes)
	if found != api.Infeasible || e != api.OK {
		t.Fatal(found, e)
	}
	a.Proofs = proofs
	return cloned(a)
}

// spoils changes arguments, so that a call has the error want, if the call takes what is changed.
type spoils struct {
	change func(a *arguments)
	taken  func(c call) bool
	want   api.Errno
}

// spoilers are in the order in which their errors come.
func spoilers() []spoils {
	always := func(call) bool { return true }
	return []spoils{
		{func(a *arguments) { a.P.Name = "" }, always, api.ErrName},
		{func(a *arguments) { a.Q.Start = []int{3} }, func(c call) bool { return c.property }, api.ErrState},
		{func(a *arguments) { a.S.T = -1 }, func(c call) bool { return c.size }, api.ErrSize},
		{func(a *arguments) { a.S.N = 9 }, func(c call) bool { return c.size }, api.ErrLarge},
		{func(a *arguments) { a.P.Rules[0].To = a.P.Rules[0].From }, always, api.ErrClass},
		{func(a *arguments) {
			a.Schema, a.Number, a.Choice, a.Point, a.Rule, a.C.States, a.R.Start.Sent = []int{9}, 99, 99, nil, 9, nil, nil
		}, func(c call) bool { return c.laterError() != api.OK }, 0},
	}
}

// laterError returns the error that the chapter names for wrong arguments of the other kinds.
func (c call) laterError() api.Errno {
	switch c.name {
	case "Check", "Schemas", "Cases", "Order", "Prove", "Accept":
		return api.OK
	case "Project":
		return api.ErrRun
	}
	return api.ErrArg
}

// R1, R2, R3, P4.1: the errors in their order, with zero results, for all combinations of them.
func TestCommonErrors(t *testing.T) {
	for _, kind := range []int{api.Never, api.Eventually} {
		good := right(t, kind)
		for chosen := range 1 << len(spoilers()) {
			for _, c := range calls() {
				a := cloned(good)
				want := api.OK
				for i, x := range spoilers() {
					if chosen>>i&1 == 0 {
						continue
					}
					x.change(&a)
					if want == api.OK && x.taken(c) {
						want = cmp.Or(x.want, c.laterError())
					}
				}
				checkError(t, c, a, want)
			}
		}
	}
}

// checkError wants an error of a call, and with it zero results. Where there is no error result, false stands for an error.
func checkError(t *testing.T, c call, a arguments, want api.Errno) {
	t.Helper()
	e, results := c.run(a)
	if c.name == "Accept" {
		if results[0] != (want == api.OK) {
			t.Errorf("%s: %v, not the error %d", c.name, results, want)
		}
		return
	}
	if e != want {
		t.Errorf("%s: error %d, not %d", c.name, e, want)
	}
	for _, result := range results {
		if want != api.OK && !isZero(result) {
			t.Errorf("%s: %v with the error %d", c.name, result, e)
		}
	}
}

// P4.1: the errors of Check for the property are those of the other functions, after those of a size.
func TestPropertyErrors(t *testing.T) {
	left := func(a *arguments) { a.Q.Goal = []int{1} }
	many := func(a *arguments) {
		for _, name := range []string{"s1", "s2", "s3", "s4", "s5"} {
			r := cloned(a.P.Rules[0])
			r.Name = name
			a.P.Rules = append(a.P.Rules, r)
		}
	}
	later := spoilers()[5].change
	for _, c := range calls() {
		if !c.property {
			continue
		}
		a := right(t, api.Eventually)
		later(&a)
		many(&a)
		checkError(t, c, a, api.ErrLarge)
		left(&a)
		checkError(t, c, a, api.ErrClass)
		if c.size {
			a.S.T = -1
			checkError(t, c, a, api.ErrSize)
		}
	}
}

// R5: no argument is changed, and results share memory neither with arguments nor among themselves.
func TestMemory(t *testing.T) {
	for _, kind := range []int{api.Never, api.Eventually} {
		for _, c := range calls() {
			a := right(t, kind)
			before := cloned(a)
			e, results := c.run(a)
			if e != api.OK || !same(a, before) {
				t.Errorf("%s changes an argument, or the error %d", c.name, e)
			}
			if !apart(append(results, a)...) {
				t.Errorf("%s: the result shares memory", c.name)
			}
		}
	}
	a := right(t, api.Never)
	c, _, e := Accelerate(a.P, a.S, a.C, 0, 0, 0)
	if e != api.OK || !same(c, a.C) || !apart(c, a) {
		t.Error("no steps: the result shares memory")
	}
}

// R4: a nil slice and an empty one are the same schema.
func TestNilAndEmpty(t *testing.T) {
	a := right(t, api.Never)
	first, e1 := Build(a.P, a.Q, nil, 0)
	second, e2 := Build(a.P, a.Q, []int{}, 0)
	if e1 != api.OK || e2 != api.OK || !same(first, second) {
		t.Error(first, second, e1, e2)
	}
}

// R6, R11: no function panics, changes an argument or gives two answers to one question.
func TestAnyArguments(t *testing.T) {
	x := newSource(12)
	list := calls()
	valid := 0
	for range 8000 {
		a := x.arguments(t)
		for range x.IntN(4) {
			x.disturb(&a)
		}
		if protocol.ValidateProperty(a.P, a.Q) == api.OK {
			valid++
		}
		before := cloned(a)
		c := list[x.IntN(len(list))]
		e, results := c.run(a)
		e2, results2 := c.run(cloned(a))
		if e != e2 || !same(results, results2) {
			t.Fatalf("%s: error %d, %v, and then error %d, %v: %+v", c.name, e, results, e2, results2, a)
		}
		if !same(a, before) {
			t.Fatalf("%s changes an argument: %+v", c.name, before)
		}
		if !apart(append(results, a)...) {
			t.Fatalf("%s: the result shares memory: %+v", c.name, before)
		}
	}
	if valid < 2000 {
		t.Error(valid)
	}
}

// arguments returns arguments that are mostly valid.
func (x source) arguments(t testing.TB) arguments {
	p := x.family(t)
	a := arguments{P: p, Q: x.property(t, p, x.between(api.Never, api.Eventually)), Nodes: x.between(-1, 5)}
	a.Schema = x.schema(len(plainThresholds(p)))
	a.Number, a.Choice, a.Rule = x.between(-1, 2), x.between(-1, 2), x.between(-1, len(p.Rules))
	a.Correct, a.Faulty = x.between(-1, 2), x.between(-1, 2)
	if s, ok := x.size(p, 4); ok {
		a.S, a.C, a.R = s, x.config(p, s), x.run(t, p, a.Q, s)
		_, a.Point = plainProject(p, a.Q, s, a.R)
	}
	if Check(p, a.Q) == api.OK {
		_, a.Proofs, _ = Prove(p, a.Q, 10)
	}
	a.Proofs = a.Proofs[:min(len(a.Proofs), 40)]
	return cloned(a)
}
