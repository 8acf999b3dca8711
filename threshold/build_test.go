package threshold

import (
	"slices"
	"testing"

	"familycheck/api"
	"familycheck/linear"
	"familycheck/protocol"
)

// P4.4: example 2 of the chapter, and the kinds of faults.
func TestVariables(t *testing.T) {
	first := []Variable{{ParamN, 0, 0}, {ParamT, 0, 0}, {ParamF, 0, 0}}
	st := family(t, stText)
	unforgeable := property(t, st, "property q never start v0 count 1 ac")
	all := property(t, st, "property q never count 1 ac")
	for i, x := range []struct {
		q      api.Property
		schema []int
		want   []Variable
	}{
		{unforgeable, nil, []Variable{{CorrectStart, 0, 0}, {CorrectFire, 0, 0}}},
		{all, nil, []Variable{{CorrectStart, 0, 0}, {CorrectStart, 0, 1}, {CorrectFire, 0, 0}}},
		{unforgeable, []int{1}, []Variable{{CorrectStart, 0, 0}, {CorrectFire, 0, 0}, {CorrectFire, 1, 0}, {CorrectFire, 1, 2}}},
		{unforgeable, []int{1, 0}, []Variable{{CorrectStart, 0, 0}, {CorrectFire, 0, 0}, {CorrectFire, 1, 0}, {CorrectFire, 1, 2}, {CorrectFire, 2, 0}, {CorrectFire, 2, 1}, {CorrectFire, 2, 2}}},
	} {
		if list, e := Variables(st, x.q, x.schema); e != api.OK || !slices.Equal(list, slices.Concat(first, x.want)) {
			t.Errorf("%d: %v, error %d", i, list, e)
		}
	}
	for fault := api.NoFault; fault <= api.Arbitrary; fault++ {
		p := duo(t, fault)
		q := property(t, p, "property q eventually start b goal d")
		want := slices.Concat(first, []Variable{{CorrectStart, 0, 1}, {CorrectFire, 0, 1}, {CorrectFire, 0, 3}, {CorrectFire, 1, 1}, {CorrectFire, 1, 2}, {CorrectFire, 1, 3}})
		if fault == api.Crash || fault == api.Omission { // faulty processes start anywhere in Initial
			want = slices.Concat(first, []Variable{{CorrectStart, 0, 1}, {FaultyStart, 0, 0}, {FaultyStart, 0, 1},
				{CorrectFire, 0, 1}, {FaultyFire, 0, 1}, {CorrectFire, 0, 3}, {FaultyFire, 0, 3},
				{CorrectFire, 1, 1}, {FaultyFire, 1, 1}, {CorrectFire, 1, 2}, {FaultyFire, 1, 2}, {CorrectFire, 1, 3}, {FaultyFire, 1, 3}})
		}
		if list, e := Variables(p, q, []int{2}); e != api.OK || !slices.Equal(list, want) {
			t.Errorf("fault %d: %v, error %d", fault, list, e)
		}
	}
}

// P4.4: a rule with two guards is allowed where both are unlocked.
func TestVariablesOfTwoGuards(t *testing.T) {
	p := duo(t, api.NoFault)
	q := property(t, p, "property q never count 1 d")
	for i, x := range []struct{ schema, want []int }{ // the segments of r1
		{[]int{0}, nil}, {[]int{1}, nil}, {[]int{2, 0}, nil}, {[]int{0, 1}, []int{2}}, {[]int{1, 0}, []int{2}}, {[]int{1, 0, 2}, []int{2, 3}}, {[]int{0, 2, 1}, []int{3}},
	} {
		list, _ := Variables(p, q, x.schema)
		var segments []int
		for _, v := range list {
			if v.Kind == CorrectFire && v.Index == 0 {
				segments = append(segments, v.Segment)
			}
		}
		if !slices.Equal(segments, x.want) {
			t.Errorf("%d: %v", i, segments)
		}
	}
}

// notSchemas are no schemas of a family with two thresholds.
func notSchemas() [][]int {
	return [][]int{{2}, {-1}, {0, 0}, {1, 0, 1}, {0, 1, 2}, {0, 1, 0, 1}, {minInt}, {0, maxInt}}
}

// P4.4, P4.5, P4.8, P4.10: ErrArg for what is no schema and no case.
func TestSchemaErrors(t *testing.T) {
	p := family(t, stText)
	q := property(t, p, "property q eventually start v1 goal ac")
	check := func(name string, e, want api.Errno, results ...any) {
		t.Helper()
		if e != want {
			t.Errorf("%s: error %d, not %d", name, e, want)
		}
		for _, x := range results {
			if e != api.OK && !isZero(x) {
				t.Errorf("%s: %v with the error %d", name, x, e)
			}
		}
	}
	try := func(schema []int, number int, want api.Errno) {
		t.Helper()
		s, e := Build(p, q, schema, number)
		check("Build", e, want, s)
		s, e = Fix(p, q, schema, number, size(4, 1, 1))
		check("Fix", e, want, s)
	}
	for _, schema := range notSchemas() {
		list, e := Variables(p, q, schema)
		check("Variables", e, api.ErrArg, list)
		try(schema, 0, api.ErrArg)
		try(schema, -1, api.ErrArg)
		s, r, e := Concretize(p, q, schema, 0, nil)
		check("Concretize", e, api.ErrArg, s, r)
	}
	for _, number := range []int{-2, 4, 5, minInt, maxInt} {
		try(nil, number, api.ErrArg)
		try([]int{1, 0}, number, api.ErrArg)
	}
	for number := -1; number <= 3; number++ {
		try([]int{1, 0}, number, api.OK)
	}
	q = property(t, p, "property q never count 1 ac")
	try(nil, 0, api.OK)
	try(nil, -1, api.OK)
	try(nil, 1, api.ErrArg)
}

// P4.5: all rows of one system with correct and faulty processes.
func TestBuildRows(t *testing.T) {
	p := family(t, crText)
	q := property(t, p, "property q never count 2 b c count 1 c")
	// n, t, f, the starts, r2 before and r1, r2 after the threshold holds
	want := []api.Row{
		row(-1, 1, 0, 0, 0, 0, 0, 0, 0, 0, 0, 0),
		row(0, 1, -1, 0, 0, 0, 0, 0, 0, 0, 0, 0),
		row(0, 1, 0, -1, 0, 0, 0, 0, 0, 0, 0, 0),
		row(-1, 1, 0, -1, 0, 0, 0, 0, 0, 0, 0, 0),
		row(0, -1, 0, 1, 1, 0, 0, 0, 0, 0, 0, 0),
		row(0, 1, 0, -1, -1, 0, 0, 0, 0, 0, 0, 0),
		row(0, 0, 0, -1, 0, 1, 0, 0, 0, 0, 0, 0),
		row(0, 0, 0, 1, 0, -1, 0, 0, 0, 0, 0, 0),
		row(0, 0, 0, 0, 1, 0, -1, 0, 0, 0, 0, 0),
		row(0, 0, 0, 0, 0, 0, 1, 0, 0, 0, 0, 0),
		row(0, 0, 0, 0, 0, 0, 0, 0, 0, 0, 0, 0),
		row(0, 0, 0, 0, 0, 1, 0, -1, 0, 0, 0, 0),
		row(0, 0, 0, 0, 0, 0, 0, 1, 0, 0, 0, 0),
		row(0, 0, 0, 0, 0, 0, 0, 0, 0, 0, 0, 0),
		row(0, -1, 0, 0, 0, 0, 2, 2, 0, 0, 0, 0),
		row(0, 0, 0, 0, 1, 0, -1, 0, 0, 0, -1, 0),
		row(0, 0, 0, 0, 0, 0, 1, 0, -1, 0, 1, 0),
		row(0, 0, 0, 0, 0, 0, 0, 0, 1, 0, 0, 0),
		row(0, 0, 0, 0, 0, 1, 0, -1, 0, 0, 0, -1),
		row(0, 0, 0, 0, 0, 0, 0, 1, 0, -1, 0, 1),
		row(0, 0, 0, 0, 0, 0, 0, 0, 0, 1, 0, 0),
		row(-2, 0, 0, 0, 0, 0, 1, 0, 0, 0, 1, 0),
		row(-1, 0, 0, 0, 0, 0, 0, 0, 1, 0, 0, 0),
	}
	for number, rows := range map[int][]api.Row{0: want, -1: want[:21]} {
		if s, e := Build(p, q, []int{0}, number); e != api.OK || !same(s, api.System{Vars: 11, Rows: rows}) {
			t.Errorf("%d: %v, error %d", number, s, e)
		}
	}
}

// P4.5: the rows that the kind of faults changes, in the systems of duo and of a family without rules.
func TestBuildFaults(t *testing.T) {
	none := family(t, "protocol p\ntopology clique\nstates a\ninitial a\n")
	s, e := Build(none, property(t, none, "property q never count 1 a"), nil, -1)
	want := []api.Row{row(-1, 1, 0, 0, 0), row(0, 1, -1, 0, 0), row(0, 1, 0, -1, 0), row(0, 0, -1, 0, 0), row(0, 0, 0, -1, 0), row(0, -1, 0, 1, 1), row(0, 1, 0, -1, -1), row(0, 0, 0, 0, 1)}
	if e != api.OK || !same(s, api.System{Vars: 4, Rows: want}) {
		t.Errorf("%v, error %d", s, e)
	}
	// The threshold 1*k >= t+1 is the first; then it may be the reason for which r1 is not forced.
	plain := [2]api.Row{row(-1, 0, -1, 0, 0, 1, 0, 0, 0), row(0, 0, 1, 0, 0, -1, 0, -1, 0)}
	both := [2]api.Row{row(-1, 0, -1, 0, 0, 0, 0, 1, 1, 0, 0, 0, 0, 0, 0), row(0, 0, 1, 0, 0, 0, 0, -1, -1, 0, 0, -1, -1, 0, 0)}
	omission := both
	omission[1] = row(0, 0, 1, 0, 0, 0, 0, -1, 0, 0, 0, -1, 0, 0, 0)
	arbitrary := plain
	arbitrary[0] = row(-1, 0, -1, 1, 0, 1, 0, 0, 0)
	for fault, want := range [][2]api.Row{plain, both, omission, arbitrary} {
		p := duo(t, fault)
		q := property(t, p, "property q eventually start a goal d")
		s, e := Build(p, q, []int{1}, 4) // the choice 2, 0, 0, 0
		if e != api.OK {
			t.Fatal(e)
		}
		sizes, before := 5, 2
		if fault == api.NoFault {
			sizes = 7
		}
		segment := 4
		if fault == api.Crash || fault == api.Omission {
			before, segment = 4, 8
		}
		if len(s.Rows) != sizes+before+segment+1+segment+5 {
			t.Fatalf("fault %d: %d rows", fault, len(s.Rows))
		}
		if got := s.Rows[sizes+before+segment]; !same(got, want[0]) {
			t.Errorf("fault %d: unlocked: %v", fault, got)
		}
		if got := s.Rows[len(s.Rows)-4]; !same(got, want[1]) {
			t.Errorf("fault %d: not forced: %v", fault, got)
		}
	}
}

// P4.5: the rows of the choices of an Eventually property.
func TestBuildChoices(t *testing.T) {
	p := family(t, stText)
	q := property(t, p, "property q eventually start v1 goal ac")
	// n, t, f, the start in v1, r1; then r1, r2 after t+1 messages; then r1, r2, r3
	outside := row(-1, 0, 0, 0, 1, 0, 0, 0, 0, 0, -1)
	first := row(0, 0, 0, 0, -1, 1, 1, 0, 1, 0, 0)
	second := [2]api.Row{row(0, 0, 0, 0, 0, 0, 0, 1, 0, 1, 0), row(0, 0, 1, 0, 0, -1, -1, -1, -1, -1, 0)}
	third := [2]api.Row{row(0, 0, 0, 0, 0, -1, -1, -1, -1, -1, 1), row(-1, 1, -1, 0, 0, -1, -1, -1, -1, -1, 0)}
	for number := range 4 {
		s, e := Build(p, q, []int{0, 1}, number)
		want := []api.Row{outside, first, second[number/2], third[number%2]}
		if e != api.OK || s.Vars != 10 || !same(s.Rows[len(s.Rows)-4:], want) {
			t.Errorf("%d: %v, error %d", number, s.Rows[len(s.Rows)-4:], e)
		}
	}
}

// P4.4, P4.5: any families, against plain functions; and the systems are within the limits of linear.
func TestBuildAny(t *testing.T) {
	x := newSource(3)
	seen := map[api.Errno]int{}
	for range 6000 {
		p := x.family(t)
		q := x.property(t, p, x.between(api.Never, api.Eventually))
		if Check(p, q) != api.OK {
			continue
		}
		schema := x.schema(len(plainThresholds(p)))
		number := x.between(-2, len(plainChoices(p, q)))
		variables, e := Variables(p, q, schema)
		if !plainIsSchema(p, schema) {
			if e != api.ErrArg {
				t.Fatalf("error %d: %+v %v", e, p, schema)
			}
		} else if e != api.OK || !slices.Equal(variables, plainVariables(p, q, schema)) {
			t.Fatalf("%v, error %d: %+v %+v %v", variables, e, p, q, schema)
		}
		s, e := Build(p, q, schema, number)
		seen[e]++
		if !plainIsSchema(p, schema) || number < -1 || number >= len(plainChoices(p, q)) {
			if e != api.ErrArg {
				t.Fatalf("error %d: %+v %v", e, p, schema)
			}
			continue
		}
		if e != api.OK || !same(s, plainBuild(p, q, schema, number)) || linear.Validate(s) != api.OK {
			t.Fatalf("%v, error %d: %+v %+v %v %d", s, e, p, q, schema, number)
		}
	}
	if seen[api.OK] < 2000 || seen[api.ErrArg] < 500 {
		t.Error(seen)
	}
}

// P4.5: the largest systems are valid.
func TestBuildLargest(t *testing.T) {
	p := api.Protocol{Name: "p", Topology: api.Clique, States: names("s", api.MaxStates), Messages: names("m", 3), Fault: api.Crash, Initial: []int{0, 1, 2, 3, 4, 5}}
	large := api.Linear{C: -api.MaxFactor, N: -api.MaxFactor, T: api.MaxFactor, F: -api.MaxFactor}
	p.Resilience = []api.Linear{large, large, large, large}
	guards := []api.Threshold{{Coef: api.MaxFactor, Bound: large}, {Coef: 1, Bound: large}, {Coef: 2, Bound: large}}
	for i, name := range names("r", api.MaxRules) {
		p.Rules = append(p.Rules, api.Rule{Name: name, Kind: api.Local, From: i % 5, To: 5, Read: -1, Write: -1, Send: []int{0, 1, 2}})
	}
	p.Rules[0].Guards, p.Rules[1].Guards = guards[:2], guards[2:]
	q := api.Property{Name: "q", Kind: api.Eventually, Goal: []int{5}}
	for fault := api.NoFault; fault <= api.Arbitrary; fault++ {
		p.Fault = fault
		if e := protocol.ValidateProperty(p, q); e != api.OK {
			t.Fatal(e)
		}
		for number := -1; number < 6; number++ {
			s, e := Build(p, q, []int{2, 1, 0}, number)
			if e != api.OK || linear.Validate(s) != api.OK || !same(s, plainBuild(p, q, []int{2, 1, 0}, number)) {
				t.Errorf("fault %d, case %d: %d variables, %d rows, error %d", fault, number, s.Vars, len(s.Rows), e)
			}
		}
	}
}

// P4.10: a system at one size.
func TestFix(t *testing.T) {
	p := family(t, crText)
	q := property(t, p, "property q never count 1 c")
	s, e := Fix(p, q, nil, 0, size(5, 3, 2))
	want := []api.Row{
		row(4, 0, 0, 0, 0, 0, 0, 0), row(2, 0, 0, 0, 0, 0, 0, 0), row(3, 0, 0, 0, 0, 0, 0, 0), row(2, 0, 0, 0, 0, 0, 0, 0),
		row(-3, 0, 0, 0, 1, 0, 0, 0), row(3, 0, 0, 0, -1, 0, 0, 0), row(-2, 0, 0, 0, 0, 1, 0, 0), row(2, 0, 0, 0, 0, -1, 0, 0),
		row(0, 0, 0, 0, 1, 0, -1, 0), row(0, 0, 0, 0, 0, 0, 1, 0), row(0, 0, 0, 0, 0, 0, 0, 0),
		row(0, 0, 0, 0, 0, 1, 0, -1), row(0, 0, 0, 0, 0, 0, 0, 1), row(0, 0, 0, 0, 0, 0, 0, 0),
		row(-1, 0, 0, 0, 0, 0, 0, 0),
	}
	if e != api.OK || !same(s, api.System{Vars: 7, Rows: want}) {
		t.Errorf("%v, error %d", s, e)
	}
	x := newSource(4)
	for range 2000 {
		p := x.family(t)
		q := x.property(t, p, x.between(api.Never, api.Eventually))
		at, ok := x.size(p, api.MaxProcesses)
		if Check(p, q) != api.OK || !ok {
			continue
		}
		schema := x.schema(len(plainThresholds(p)))
		number := x.between(-1, len(plainChoices(p, q))-1)
		want, wantError := Build(p, q, schema, number)
		for v, value := range []int{at.N, at.T, at.F} {
			if wantError == api.OK {
				want, wantError = linear.Substitute(want, v, value)
			}
		}
		if s, e := Fix(p, q, schema, number, at); e != wantError || !same(s, want) {
			t.Fatalf("%v, error %d: %+v %+v %v %d %v", s, e, p, q, schema, number, at)
		}
	}
}
