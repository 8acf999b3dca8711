package unfold

import (
	"testing"

	"familycheck/api"
	"familycheck/protocol"
)

// arguments has one argument for each parameter of the package's functions.
type arguments struct {
	P           api.Protocol
	Never, Goal api.Property
	S           api.Size
	C, D        api.Config
	X           api.Step
	R           api.Run
	L           api.Lasso
	Shape       []int
	I, K        int
}

// call is an exported function; run returns its error, or OK if it has none, and its other results.
type call struct {
	name                  string
	family, property, any bool // which errors of R2 it returns: those of the family, of the property, of the size
	run                   func(a arguments) (api.Errno, []any)
}

func calls() []call {
	return []call{
		{"Modeled", true, false, true, func(a arguments) (api.Errno, []any) { return api.OK, []any{Modeled(a.P, a.S)} }},
		{"ValidConfig", true, false, true, func(a arguments) (api.Errno, []any) { return ValidConfig(a.P, a.S, a.C), nil }},
		{"Initial never", true, true, true, func(a arguments) (api.Errno, []any) {
			list, e := Initial(a.P, a.Never, a.S)
			return e, []any{list}
		}},
		{"Initial goal", true, true, true, func(a arguments) (api.Errno, []any) {
			list, e := Initial(a.P, a.Goal, a.S)
			return e, []any{list}
		}},
		{"Enabled", true, false, true, func(a arguments) (api.Errno, []any) {
			ok, e := Enabled(a.P, a.S, a.C, a.X)
			return e, []any{ok}
		}},
		{"Forced", true, false, true, func(a arguments) (api.Errno, []any) {
			ok, e := Forced(a.P, a.S, a.C, a.I, a.K)
			return e, []any{ok}
		}},
		{"Apply", true, false, true, func(a arguments) (api.Errno, []any) {
			c, e := Apply(a.P, a.S, a.C, a.X)
			return e, []any{c}
		}},
		{"Steps", true, false, true, func(a arguments) (api.Errno, []any) {
			list, e := Steps(a.P, a.S, a.C)
			return e, []any{list}
		}},
		{"Counts", true, false, false, func(a arguments) (api.Errno, []any) {
			list, e := Counts(a.P, a.C)
			return e, []any{list}
		}},
		{"Bad", true, true, false, func(a arguments) (api.Errno, []any) {
			ok, e := Bad(a.P, a.Never, a.C)
			return e, []any{ok}
		}},
		{"Reached", true, true, false, func(a arguments) (api.Errno, []any) {
			ok, e := Reached(a.P, a.Goal, a.C)
			return e, []any{ok}
		}},
		{"Replay", true, false, true, func(a arguments) (api.Errno, []any) {
			list, e := Replay(a.P, a.S, a.R)
			return e, []any{list}
		}},
		{"Canonical", true, false, false, func(a arguments) (api.Errno, []any) {
			c, e := Canonical(a.P, a.C)
			return e, []any{c}
		}},
		{"Reach never", true, true, true, func(a arguments) (api.Errno, []any) {
			list, e := Reach(a.P, a.Never, a.S)
			return e, []any{list}
		}},
		{"Reach goal", true, true, true, func(a arguments) (api.Errno, []any) {
			list, e := Reach(a.P, a.Goal, a.S)
			return e, []any{list}
		}},
		{"Shortest", true, true, true, func(a arguments) (api.Errno, []any) {
			r, ok, e := Shortest(a.P, a.Never, a.S)
			return e, []any{r, ok}
		}},
		{"Smallest", true, true, false, func(a arguments) (api.Errno, []any) {
			s, r, ok, e := Smallest(a.P, a.Never, min(a.I, 3))
			return e, []any{s, r, ok}
		}},
		{"FairLasso", true, true, true, func(a arguments) (api.Errno, []any) {
			l, ok, e := FairLasso(a.P, a.Goal, a.S)
			return e, []any{l, ok}
		}},
		{"SmallestLasso", true, true, false, func(a arguments) (api.Errno, []any) {
			s, l, ok, e := SmallestLasso(a.P, a.Goal, min(a.I, 3))
			return e, []any{s, l, ok}
		}},
		{"IsViolation", false, false, false, func(a arguments) (api.Errno, []any) {
			return api.OK, []any{IsViolation(a.P, a.Never, a.S, a.R)}
		}},
		{"IsLasso", false, false, false, func(a arguments) (api.Errno, []any) {
			return api.OK, []any{IsLasso(a.P, a.Goal, a.S, a.L)}
		}},
		{"Compare", false, false, false, func(a arguments) (api.Errno, []any) { return api.OK, []any{Compare(a.C, a.D)} }},
		{"Neighbors", false, false, false, func(a arguments) (api.Errno, []any) {
			first, second, parent := Neighbors(a.P.Topology, a.Shape, a.S.N, a.I)
			return api.OK, []any{first, second, parent}
		}},
		{"Shapes", false, false, false, func(a arguments) (api.Errno, []any) {
			list, e := Shapes(a.K)
			return e, []any{list}
		}},
	}
}

// right returns arguments without errors.
func right(t testing.TB) arguments {
	t.Helper()
	p := family(t, replaced(t, mxText, "read free ", ""))
	a := arguments{P: p, Never: property(t, p, "property q never start i count 2 c"), Goal: property(t, p, "property q eventually goal c"), S: size(2, 0, 0)}
	a.C, a.D, a.X = plainStart(p, 1, 0), plainStart(p, 0, 1), alone(0, 1)
	steps := []api.Step{alone(0, 0), alone(0, 1), alone(1, 1), alone(1, 0)}
	a.R = api.Run{Start: plainStart(p, 0, 0), Steps: steps}
	turns := []api.Step{alone(0, 0), alone(1, 0), alone(2, 0), alone(0, 1), alone(1, 1), alone(2, 1)}
	a.L = api.Lasso{Start: plainStart(p, 0, 0), Prefix: turns[:3], Loop: turns}
	a.Shape, a.I, a.K = []int{2, 0, 0}, 2, 5
	return cloned(a)
}

// R2, R3: the common errors in their order, with zero results.
func TestCommonErrors(t *testing.T) {
	spoil := func(f func(a *arguments)) arguments {
		a := right(t)
		f(&a)
		return a
	}
	family := func(a *arguments) { a.P.Topology = 9 }
	property := func(a *arguments) { a.Never.Name, a.Goal.Name = "", "" }
	faults := func(a *arguments) { a.S.F = 1 }
	large := func(a *arguments) { a.S.N = api.MaxProcesses + 1 }
	later := func(a *arguments) { // the errors that chapters name
		a.C.States, a.R.Start.States = []int{9}, nil
		a.Never, a.Goal = a.Goal, a.Never
		a.I = api.MaxProcesses + 1
	}
	for _, c := range calls() {
		if e, _ := c.run(right(t)); e != api.OK {
			t.Errorf("%s: error %d", c.name, e)
		}
		if !c.family {
			continue
		}
		for i, x := range []struct {
			a    arguments
			is   bool
			want api.Errno
		}{
			{spoil(func(a *arguments) { later(a); large(a); property(a); family(a) }), true, api.ErrArg},
			{spoil(func(a *arguments) { later(a); faults(a); property(a) }), c.property, api.ErrName},
			{spoil(func(a *arguments) { later(a); large(a); property(a) }), c.property, api.ErrName},
			{spoil(func(a *arguments) { later(a); faults(a) }), c.any, api.ErrSize},
			{spoil(func(a *arguments) { later(a); large(a); faults(a) }), c.any, api.ErrSize},
			{spoil(func(a *arguments) { later(a); large(a) }), c.any, api.ErrLarge},
		} {
			e, results := c.run(x.a)
			if x.is && e != x.want && c.name != "Modeled" {
				t.Errorf("%s %d: error %d, not %d", c.name, i, e, x.want)
			}
			for _, result := range results {
				if x.is && !isZero(result) {
					t.Errorf("%s %d: %v with the error %d", c.name, i, result, e)
				}
			}
		}
	}
}

// R2: functions without an error return false.
func TestFalseWithErrors(t *testing.T) {
	a := right(t)
	if !IsViolation(a.P, a.Never, a.S, a.R) || !IsLasso(a.P, a.Goal, a.S, a.L) {
		t.Fatal("not accepted")
	}
	for i, spoil := range []func(a *arguments){
		func(a *arguments) { a.P.Name = "" },
		func(a *arguments) { a.Never.Name, a.Goal.Name = "", "" },
		func(a *arguments) { a.Never.Start, a.Goal.Start = []int{1}, []int{1} },
		func(a *arguments) { a.S.F = 1 },
		func(a *arguments) { a.S.N = 0 },
		func(a *arguments) {
			a.S.N = api.MaxProcesses + 1
			states := make([]int, a.S.N)
			a.R.Start, a.L.Start = plainStart(a.P, states...), plainStart(a.P, states...)
		},
	} {
		a := right(t)
		spoil(&a)
		if IsViolation(a.P, a.Never, a.S, a.R) || IsLasso(a.P, a.Goal, a.S, a.L) {
			t.Errorf("%d: accepted", i)
		}
	}
}

// The error ErrArg of ValidConfig is that of the other functions that take a size and a configuration.
func TestConfigErrors(t *testing.T) {
	for _, c := range calls() {
		switch c.name {
		case "Enabled", "Forced", "Apply", "Steps", "ValidConfig", "Counts", "Bad", "Reached", "Canonical":
			a := right(t)
			a.C.Correct, a.X, a.I = 7, alone(99, 99), 99
			e, results := c.run(a)
			if e != api.ErrArg {
				t.Errorf("%s: error %d", c.name, e)
			}
			for _, result := range results {
				if !isZero(result) {
					t.Errorf("%s: %v", c.name, result)
				}
			}
		}
	}
}

// R5: no argument is changed, and results share memory neither with arguments nor among themselves.
func TestMemory(t *testing.T) {
	for _, c := range calls() {
		a := right(t)
		before := cloned(a)
		_, results := c.run(a)
		if !same(a, before) {
			t.Errorf("%s changes an argument", c.name)
		}
		if !apart(append(results, a)...) {
			t.Errorf("%s: the result shares memory", c.name)
		}
	}
}

// R6, R11: no function panics, changes an argument or gives two answers to one question.
func TestAnyArguments(t *testing.T) {
	x := newSource(10)
	list := calls()
	valid := 0
	for range 15000 {
		p := x.family(t)
		a := arguments{P: p, Never: x.property(t, p, api.Never), Goal: x.property(t, p, api.Eventually), I: x.between(-1, 4), K: x.between(-1, 9)}
		s, ok := x.size(p, 3)
		if !ok {
			continue
		}
		a.S, a.C, a.D = s, x.config(p, s), x.config(p, s)
		a.X = with(x.IntN(len(p.Rules)), x.IntN(3), x.between(-1, 2))
		a.Shape = a.C.Shape
		a.R = api.Run{Start: a.C, Steps: []api.Step{a.X, a.X}}
		a.L = api.Lasso{Start: a.D, Prefix: []api.Step{a.X}, Loop: []api.Step{a.X}}
		a = cloned(a)
		for range x.IntN(3) {
			x.disturb(&a)
		}
		if protocol.Validate(a.P) == api.OK {
			valid++
		}
		before := cloned(a)
		c := list[x.IntN(len(list))]
		e, results := c.run(a)
		e2, results2 := c.run(cloned(a))
		if e != e2 || !same(results, results2) {
			t.Fatalf("%s: error %d, %v, and then error %d, %v: %+v", c.name, e, results, e2, results2, a)
		}
		if !same(a, before) {
			t.Fatalf("%s changes an argument: %+v", c.name, before)
		}
		if !apart(append(results, a)...) {
			t.Fatalf("%s: the result shares memory: %+v", c.name, before)
		}
	}
	if valid < 3000 {
		t.Error(valid)
	}
}
