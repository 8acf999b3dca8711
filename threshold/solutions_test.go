package threshold

import (
	"slices"
	"testing"

	"familycheck/api"
	"familycheck/linear"
	"familycheck/unfold"
)

// P4.8, P4.9: three processes, one of which crashes after it has sent.
func TestSolution(t *testing.T) {
	p := family(t, crText)
	q := property(t, p, "property q never count 2 c")
	point := []int{3, 0, 1, 2, 1, 2, 1, 2, 0, 0, 0} // n, t, f, the starts, r2 before, r1 and r2 after the threshold holds
	want := api.Run{
		Start: api.Config{States: []int{0, 0, 0}, Correct: 2, Sent: []int{0}, Faulty: []int{0}},
		Steps: []api.Step{step(1, 0), step(1, 1), step(1, 2), step(0, 0), step(0, 1)},
	}
	for _, number := range []int{0, -1} {
		s, r, e := Concretize(p, q, []int{0}, number, point)
		if e != api.OK || s != size(3, 0, 1) || !same(r, want) || !unfold.IsViolation(p, q, s, r) {
			t.Errorf("%d: %v, %v, error %d", number, s, r, e)
		}
	}
	// The threshold holds after two messages. So the third one is sent in the next segment.
	schema, again, e := Project(p, q, size(3, 0, 1), want)
	if e != api.OK || !slices.Equal(schema, []int{0}) || !slices.Equal(again, []int{3, 0, 1, 2, 1, 2, 0, 2, 0, 0, 1}) {
		t.Errorf("%v, %v, error %d", schema, again, e)
	}
	s, r, e := Concretize(p, q, schema, 0, again)
	order := []api.Step{step(1, 0), step(1, 1), step(1, 2), step(0, 0), step(0, 1)}
	if e != api.OK || s != size(3, 0, 1) || !same(r.Steps, order) {
		t.Errorf("%v, %v, error %d", s, r, e)
	}
}

// P4.8: the processes start in ascending order of their states, the correct ones first; the rules go in the order of Order.
func TestConcretizeOrder(t *testing.T) {
	p := family(t, `protocol p
topology clique
states a b c d
messages m
faults omission
initial a b
rule r1 local b c
rule r2 local a b send m
rule r3 local b d when 1*m >= 1
`)
	q := property(t, p, "property q never count 1 d")
	// n, t, f, correct in a and b, faulty in a and b; r1 and r2 of correct and faulty ones; then r1, r2, r3
	point := []int{6, 1, 3, 2, 1, 1, 2, 1, 2, 1, 1, 0, 1, 1, 0, 1, 0}
	s, r, e := Concretize(p, q, []int{0}, 0, point)
	want := api.Run{
		Start: api.Config{States: []int{0, 0, 1, 0, 1, 1}, Correct: 3, Sent: []int{0}, Faulty: []int{0}},
		Steps: []api.Step{step(1, 0), step(1, 3), step(0, 0), step(0, 3), step(0, 4), step(1, 1), step(0, 5), step(2, 1)},
	}
	if e != api.OK || s != size(6, 1, 3) || !same(r, want) || !unfold.IsViolation(p, q, s, r) {
		t.Errorf("%v, %+v, error %d", s, r, e)
	}
}

// P4.8: a stopped configuration outside the goal is a fair lasso.
func TestConcretizeEventually(t *testing.T) {
	p := family(t, stText)
	q := property(t, p, "property q eventually start v0 v1 goal ac")
	found := 0
	for number := range 4 {
		system, _ := Build(p, q, nil, number)
		o, e := linear.Solve(system, 100)
		if e != api.OK || o.Kind == api.Unknown {
			t.Fatal(e)
		}
		if o.Kind == api.Infeasible {
			continue
		}
		found++
		s, r, e := Concretize(p, q, nil, number, o.Point)
		if e != api.OK || !unfold.IsLasso(p, q, s, api.Lasso{Start: r.Start, Prefix: r.Steps}) {
			t.Errorf("%d: %v, %v, error %d", number, s, r, e)
		}
	}
	if found == 0 {
		t.Error("no solution")
	}
}

// P4.8: the errors in their order.
func TestConcretizeErrors(t *testing.T) {
	p := family(t, crText)
	q := property(t, p, "property q never count 2 c")
	right := []int{3, 0, 1, 2, 1, 2, 0, 2, 0, 0, 0}
	for i, x := range []struct {
		schema []int
		number int
		point  []int
		want   api.Errno
	}{
		{[]int{0}, 0, right, api.OK},
		{[]int{1}, 0, right, api.ErrArg},
		{[]int{0, 0}, 0, right, api.ErrArg},
		{[]int{0}, 1, right, api.ErrArg},
		{[]int{0}, -2, right, api.ErrArg},
		{nil, 0, right, api.ErrArg},
		{[]int{0}, 0, right[:10], api.ErrArg},
		{[]int{0}, 0, append(slices.Clone(right), 0), api.ErrArg},
		{[]int{0}, 0, nil, api.ErrArg},
		{[]int{0}, 0, []int{3, 0, 1, 2, 1, 2, 0, 1, 0, 0, 0}, api.ErrArg},   // one process in c
		{[]int{0}, -1, []int{3, 0, 1, 2, 1, 2, 0, 1, 0, 0, 0}, api.OK},      // that is no violation
		{[]int{0}, -1, []int{3, 0, 1, 2, 1, 1, 0, 1, 0, 0, 0}, api.ErrArg},  // the threshold does not hold
		{[]int{0}, -1, []int{3, 0, 1, 2, 1, 2, 0, 3, 0, 0, 0}, api.ErrArg},  // a process too many
		{[]int{0}, -1, []int{3, 0, 3, 0, 3, 0, 3, 0, 3, 0, 0}, api.ErrArg},  // n-f-1 is below 0
		{[]int{0}, -1, []int{3, 0, 1, 2, 1, 2, 0, 2, 0, 0, -1}, api.ErrArg}, // a coordinate below 0
		{[]int{0}, -1, []int{3, 0, 1, maxInt, 1, 2, 0, 2, 0, 0, 0}, api.ErrArg},
		{[]int{0}, 0, []int{8, 8, 1, 7, 1, 7, 0, 7, 0, 0, 0}, api.OK},
		{[]int{0}, 0, []int{8, 9, 1, 7, 1, 7, 0, 7, 0, 0, 0}, api.ErrArg},
		{[]int{0}, 0, []int{9, 0, 1, 8, 1, 8, 0, 8, 0, 0, 0}, api.ErrLarge},
		{[]int{0}, 0, []int{9, 0, 1, 8, 1, 8, 0, 9, 0, 0, 0}, api.ErrArg},
		{[]int{0}, 2, []int{9, 0, 1, 8, 1, 8, 0, 8, 0, 0, 0}, api.ErrArg},
		{nil, -1, []int{api.MaxPoint, 0, 1, api.MaxPoint - 1, 1, 0, 0}, api.ErrLarge},
		{nil, -1, []int{api.MaxPoint + 1, 0, 1, api.MaxPoint, 1, 0, 0}, api.ErrArg},
	} {
		s, r, e := Concretize(p, q, x.schema, x.number, x.point)
		if e != x.want || e != api.OK && (!isZero(s) || !isZero(r)) {
			t.Errorf("%d: %v, %v, error %d", i, s, r, e)
		}
		if e == api.OK {
			if _, e := unfold.Replay(p, s, r); e != api.OK {
				t.Errorf("%d: error %d", i, e)
			}
		}
	}
}

// P4.8, R7: at most MaxProcesses processes, also where no rule is taken.
func TestConcretizeLarge(t *testing.T) {
	p := family(t, "protocol p\ntopology clique\nstates a b\nfaults arbitrary\ninitial a b\n")
	q := property(t, p, "property q never count 2 b")
	for i, x := range []struct {
		point []int
		want  api.Errno
	}{
		{[]int{8, 8, 1, 3, 4}, api.OK}, {[]int{9, 0, 1, 4, 4}, api.ErrLarge}, {[]int{9, 9, 9, 0, 0}, api.ErrArg}, {[]int{100, 9, 9, 0, 91}, api.ErrLarge}, {[]int{100, 9, 9, 0, 92}, api.ErrArg},
	} {
		s, r, e := Concretize(p, q, nil, 0, x.point)
		if e != x.want || e != api.OK && (!isZero(s) || !isZero(r)) || e == api.OK && !same(r.Start.States, []int{0, 0, 0, 1, 1, 1, 1}) {
			t.Errorf("%d: %v, %v, error %d", i, s, r, e)
		}
	}
}

// P4.9: the order of the schema.
func TestProjectSchema(t *testing.T) {
	p := duo(t, api.Arbitrary) // 2*m >= n-f, 1*k >= t+1, 1*m >= 1
	q := property(t, p, "property q never count 1 d")
	start := func(states ...int) api.Config {
		return api.Config{States: states, Correct: len(states), Sent: []int{0, 0}, Faulty: []int{0, 0}}
	}
	for i, x := range []struct {
		s      api.Size
		r      api.Run
		schema []int
		last   []int // the coordinates after the starts
	}{
		{size(3, 0, 0), api.Run{Start: start(0, 0, 0)}, nil, []int{0, 0}},
		// The first message makes two thresholds hold, and the second one the third.
		{size(3, 0, 0), api.Run{Start: start(0, 0, 1), Steps: []api.Step{step(1, 0), step(2, 2), step(1, 1)}}, []int{1, 2, 0}, []int{1, 0, 0, 0, 1, 1, 0, 0, 0, 0, 0}},
		// One process: all of them hold at once.
		{size(1, 0, 0), api.Run{Start: start(0), Steps: []api.Step{step(1, 0), step(0, 0)}}, []int{0, 1, 2}, []int{1, 0, 0, 0, 0, 0, 0, 1, 0, 0, 0}},
		// An arbitrary fault counts as a message of each type: 1*m >= 1 holds from the start.
		{size(4, 1, 1), api.Run{Start: start(1, 0, 0), Steps: []api.Step{step(2, 0), step(3, 1)}}, []int{2, 1}, []int{0, 0, 0, 1, 0, 0, 0, 1}},
		{size(3, 1, 1), api.Run{Start: start(0, 1)}, []int{0, 2}, []int{0, 0, 0, 0, 0, 0, 0}},
	} {
		schema, point, e := Project(p, q, x.s, x.r)
		if e != api.OK || !same(schema, x.schema) || len(point) < 5 || !same(point[5:], x.last) {
			t.Errorf("%d: %v, %v, error %d", i, schema, point, e)
		}
		if len(point) > 2 && !slices.Equal(point[:3], []int{x.s.N, x.s.T, x.s.F}) {
			t.Errorf("%d: %v", i, point)
		}
	}
}

// P4.9: the errors.
func TestProjectErrors(t *testing.T) {
	p := family(t, replaced(t, duoText, "initial a b", "initial a b c"))
	q := property(t, p, "property q never start a b count 1 d")
	s := size(4, 1, 1)
	right := api.Run{
		Start: api.Config{States: []int{0, 1, 0, 0}, Correct: 3, Sent: []int{0, 0}, Faulty: []int{0, 0}},
		Steps: []api.Step{step(1, 0), step(2, 1), step(1, 3)},
	}
	for i, x := range []struct {
		change func(r *api.Run)
		want   api.Errno
	}{
		{func(r *api.Run) {}, api.OK},
		{func(r *api.Run) { r.Steps = nil }, api.OK},
		{func(r *api.Run) { r.Start.States[0], r.Steps = 2, nil }, api.ErrRun}, // in Initial, not in Start
		{func(r *api.Run) { r.Start.States[2], r.Steps = 3, nil }, api.ErrRun},
		{func(r *api.Run) { r.Start.States[3], r.Steps = 2, nil }, api.OK}, // a faulty process
		{func(r *api.Run) { r.Start.States[3], r.Steps = 3, nil }, api.ErrRun},
		{func(r *api.Run) { r.Start.States[0] = 4 }, api.ErrRun},
		{func(r *api.Run) { r.Start.Sent[0] = 1 }, api.ErrRun},
		{func(r *api.Run) { r.Start.Sent[1] = 1 }, api.ErrRun},
		{func(r *api.Run) { r.Start.Faulty[0] = 1 }, api.ErrRun},
		{func(r *api.Run) { r.Start.Sent = nil }, api.ErrRun},
		{func(r *api.Run) { r.Start.Correct = 4 }, api.ErrRun},
		{func(r *api.Run) { r.Start.Correct = maxInt }, api.ErrRun},
		{func(r *api.Run) { r.Start.States = r.Start.States[:3] }, api.ErrRun},
		{func(r *api.Run) { r.Start.Value = 1 }, api.ErrRun},
		{func(r *api.Run) { r.Start.Shape = []int{0} }, api.ErrRun},
		{func(r *api.Run) { r.Steps[0].Rule = 0 }, api.ErrRun},
		{func(r *api.Run) { r.Steps[0].Rule = 9 }, api.ErrRun},
		{func(r *api.Run) { r.Steps[1] = r.Steps[0] }, api.ErrRun},
		{func(r *api.Run) { r.Steps[0].Partner = 1 }, api.ErrRun},
		{func(r *api.Run) { r.Steps[0], r.Steps[1] = r.Steps[1], r.Steps[0] }, api.ErrRun}, // without a message
		{func(r *api.Run) { r.Steps = append(r.Steps, step(0, 0)) }, api.OK},
		{func(r *api.Run) { r.Steps = append(r.Steps, step(0, 2)) }, api.ErrRun},
	} {
		schema, point, e := Project(p, q, s, changed(right, x.change))
		if e != x.want || e != api.OK && (len(schema) > 0 || len(point) > 0) {
			t.Errorf("%d: %v, %v, error %d", i, schema, point, e)
		}
	}
}

// P4.9: there may be more initial configurations than an exploration may hold.
func TestProjectOfManyStarts(t *testing.T) {
	p := family(t, "protocol p\ntopology clique\nstates a b c d e f\ninitial a b c d e f\nrule r local a f\n")
	q := property(t, p, "property q never count 1 a")
	r := api.Run{Start: api.Config{States: []int{5, 0, 4, 0, 3, 1, 0, 5}, Correct: 8}, Steps: []api.Step{step(0, 6)}}
	if _, e := unfold.Initial(p, q, size(8, 0, 0)); e != api.ErrLarge {
		t.Fatal(e)
	}
	schema, point, e := Project(p, q, size(8, 0, 0), r)
	if e != api.OK || len(schema) > 0 || !slices.Equal(point, []int{8, 0, 0, 3, 1, 0, 1, 1, 2, 1}) {
		t.Errorf("%v, %v, error %d", schema, point, e)
	}
}

// P4.8, P4.9: any runs, against plain functions, and what follows from the sentences.
func TestSolutionsAny(t *testing.T) {
	x := newSource(7)
	runs, segments, violations := 0, 0, 0
	for range 6000 {
		p := x.family(t)
		q := x.property(t, p, x.between(api.Never, api.Eventually))
		s, ok := x.size(p, 6)
		if !ok || Check(p, q) != api.OK {
			continue
		}
		r := x.run(t, p, q, s)
		schema, point, e := Project(p, q, s, r)
		wantSchema, wantPoint := plainProject(p, q, s, r)
		if e != api.OK || !same(schema, wantSchema) || !same(point, wantPoint) {
			t.Fatalf("%v, %v, error %d: %+v %+v %v %+v", schema, point, e, p, q, s, r)
		}
		at, again, e := Concretize(p, q, schema, -1, point)
		_, want, _ := plainConcretize(p, q, schema, point)
		if e != api.OK || at != s || !same(again, want) {
			t.Fatalf("%v, %+v, error %d: %+v %+v %v %+v", at, again, e, p, q, s, r)
		}
		if !same(end(t, p, s, again), end(t, p, s, r)) {
			t.Fatalf("%+v ends elsewhere than %+v: %+v", again, r, p)
		}
		runs++
		segments += len(schema)
		if violates(t, p, q, s, r) {
			violations++
			checkViolation(t, p, q, schema, point)
		}
	}
	if runs < 3000 || segments < 1000 || violations < 500 {
		t.Error(runs, segments, violations)
	}
}

// end returns the canonical form of the last configuration of a run.
func end(t *testing.T, p api.Protocol, s api.Size, r api.Run) api.Config {
	t.Helper()
	configs, e := unfold.Replay(p, s, r)
	if e != api.OK {
		t.Fatalf("error %d: %+v %v %+v", e, p, s, r)
	}
	c, _ := unfold.Canonical(p, configs[len(configs)-1])
	return c
}

// violates reports whether a run violates q, as it is or as the prefix of a lasso with an empty loop.
func violates(t *testing.T, p api.Protocol, q api.Property, s api.Size, r api.Run) bool {
	t.Helper()
	if q.Kind == api.Never {
		return unfold.IsViolation(p, q, s, r)
	}
	is := unfold.IsLasso(p, q, s, api.Lasso{Start: r.Start, Prefix: r.Steps})
	last := end(t, p, s, r)
	stopped, _ := Stopped(p, s, last)
	reached, _ := unfold.Reached(p, q, last)
	if is != (stopped && !reached) {
		t.Fatalf("lasso: %v, stopped: %v, reached: %v: %+v %+v", is, stopped, reached, p, r)
	}
	return is
}

// checkViolation wants a case whose system the point of a violation satisfies and whose run is one.
func checkViolation(t *testing.T, p api.Protocol, q api.Property, schema, point []int) {
	t.Helper()
	for number := range plainChoices(p, q) {
		system, _ := Build(p, q, schema, number)
		if !linear.Satisfies(system, point) {
			continue
		}
		s, r, e := Concretize(p, q, schema, number, point)
		if e != api.OK || !violates(t, p, q, s, r) {
			t.Fatalf("%v, %+v, error %d: %+v %+v", s, r, e, p, q)
		}
		return
	}
	t.Fatalf("no case: %+v %+v %v %v", p, q, schema, point)
}

// P4.8: any points. Those that satisfy a system have a run, and all others the error ErrArg.
func TestConcretizeAny(t *testing.T) {
	x := newSource(8)
	good, bad := 0, 0
	for range 6000 {
		p := x.family(t)
		q := x.property(t, p, x.between(api.Never, api.Eventually))
		at, ok := x.size(p, 5)
		if !ok || Check(p, q) != api.OK {
			continue
		}
		schemas := plainSchemas(p)
		schema, number := schemas[x.IntN(len(schemas))], x.between(-1, len(plainChoices(p, q))-1)
		system, e := Fix(p, q, schema, number, at)
		if e != api.OK {
			t.Fatal(e)
		}
		o, _ := linear.Solve(system, 50)
		if o.Kind != api.Feasible {
			continue
		}
		point := slices.Concat([]int{at.N, at.T, at.F}, o.Point[3:])
		if x.IntN(2) == 0 {
			point[x.IntN(len(point))] += x.between(-1, 1)
		}
		system, _ = Build(p, q, schema, number)
		s, r, e := Concretize(p, q, schema, number, point)
		if !linear.Satisfies(system, point) {
			bad++
			if e != api.ErrArg || !isZero(s) || !isZero(r) {
				t.Fatalf("%v, %v, error %d: %+v %+v %v %d %v", s, r, e, p, q, schema, number, point)
			}
			continue
		}
		good++
		wantSize, want, ok := plainConcretize(p, q, schema, point)
		if !ok || e != api.OK || s != wantSize || !same(r, want) || number >= 0 && !violates(t, p, q, s, r) {
			t.Fatalf("%v, %v, error %d: %+v %+v %v %d %v", s, r, e, p, q, schema, number, point)
		}
	}
	if good < 1000 || bad < 500 {
		t.Error(good, bad)
	}
}
