package threshold

import (
	"slices"
	"testing"

	"familycheck/api"
	"familycheck/unfold"
)

// P4.6: the rules by their state From and then by their index.
func TestOrder(t *testing.T) {
	cr, d := family(t, crText), duo(t, api.Crash)
	mixed := family(t, "protocol p\ntopology clique\nstates a b c d\ninitial a\nrule r1 local c d\nrule r2 local a d\nrule r3 local b c\nrule r4 local a b\nrule r5 local c d\nrule r6 local a c\n")
	for i, x := range []struct {
		p    api.Protocol
		want []int
	}{{cr, []int{1, 0}}, {d, []int{1, 3, 2, 0}}, {mixed, []int{1, 3, 5, 2, 0, 4}}, {guarded(), nil}, {guarded(0, 0), []int{0, 1}}} {
		for _, text := range []string{"property q never count 1 b", "property q eventually goal " + x.p.States[len(x.p.States)-1]} {
			if list, e := Order(x.p, property(t, x.p, text)); e != api.OK || !same(list, x.want) {
				t.Errorf("%d: %v, error %d", i, list, e)
			}
		}
	}
	x := newSource(5)
	for range 1000 {
		p := x.family(t)
		if list, e := Order(p, x.property(t, p, api.Never)); e != api.OK || !same(list, plainOrder(p)) {
			t.Fatalf("%v, error %d: %+v", list, e, p)
		}
	}
}

// P4.6: the messages that count for a threshold, by the kind of faults, at the bound and one below it.
func TestUnlocked(t *testing.T) {
	s := size(5, 1, 1) // the thresholds are 2*m >= n-f, 1*k >= t+1 and 1*m >= 1
	for fault, x := range [][]struct{ m, k, faultyM, faultyK, all int }{
		api.NoFault:   {{0, 0, 0, 0, 0}, {2, 0, 0, 0, 4}, {3, 0, 0, 0, 5}, {0, 1, 0, 0, 2}, {3, 1, 0, 0, 7}},
		api.Crash:     {{0, 0, 0, 0, 0}, {1, 1, 0, 0, 4}, {0, 0, 1, 0, 4}, {1, 0, 1, 0, 5}, {0, 1, 0, 1, 2}, {0, 0, 0, 2, 2}, {2, 1, 2, 1, 7}, {0, 1, 2, 0, 5}},
		api.Omission:  {{0, 0, 0, 0, 0}, {1, 1, 0, 0, 4}, {0, 0, 1, 0, 4}, {1, 0, 1, 0, 5}, {0, 1, 0, 1, 2}, {0, 0, 0, 2, 2}, {2, 1, 2, 1, 7}, {0, 1, 2, 0, 5}},
		api.Arbitrary: {{0, 0, 0, 0, 4}, {1, 0, 0, 0, 5}, {0, 1, 0, 0, 6}, {1, 1, 0, 0, 7}},
	} {
		p, at := duo(t, fault), s
		if fault == api.NoFault {
			at = size(5, 0, 0)
		}
		for i, y := range x {
			c := api.Config{States: make([]int, unfold.Modeled(p, at)), Correct: at.N - at.F, Sent: []int{y.m, y.k}, Faulty: []int{y.faultyM, y.faultyK}}
			var want []int
			for threshold := range 3 {
				if y.all>>threshold&1 == 1 {
					want = append(want, threshold)
				}
			}
			if list, e := Unlocked(p, at, c); e != api.OK || !same(list, want) {
				t.Errorf("fault %d, %d: %v, not %v, error %d", fault, i, list, want, e)
			}
		}
	}
}

// P4.6: what faulty processes may withhold forces nothing, and faulty processes are not forced.
func TestStopped(t *testing.T) {
	for fault := api.NoFault; fault <= api.Arbitrary; fault++ {
		p, s := duo(t, fault), size(4, 1, 1)
		if fault == api.NoFault {
			s = size(4, 0, 0)
		}
		faulty := unfold.Modeled(p, s) - (s.N - s.F)
		for i, x := range []struct {
			state, others int // of one correct process and of the other ones
			m, k, faultyM int // the messages
			want          bool
		}{
			{3, 3, 9, 9, 0, true},  // faulty processes alone could go on
			{0, 3, 0, 0, 0, false}, // r2 has no guard
			{3, 0, 0, 0, 0, false},
			{1, 3, 0, 0, 0, true}, // 1*m >= 1
			{1, 3, 1, 0, 0, false},
			{1, 3, 0, 0, 1, fault == api.Omission},
			{3, 1, 0, 2, 0, true},
			{2, 3, 2, 2, 0, false}, // 2*m >= n-f and 1*k >= t+1
			{3, 2, 2, 2, 0, false},
			{2, 3, 2, 0, 0, true},
			{2, 3, 1, 2, 0, true},
			{2, 3, 1, 2, 1, fault == api.Omission},
		} {
			if x.faultyM > 0 && faulty == 0 {
				continue
			}
			c := api.Config{States: []int{x.state}, Correct: s.N - s.F, Sent: []int{x.m, x.k}, Faulty: []int{x.faultyM, 0}}
			c.States = append(c.States, slices.Repeat([]int{x.others}, c.Correct-1)...)
			c.States = append(c.States, make([]int, faulty)...)
			if got, e := Stopped(p, s, c); e != api.OK || got != x.want {
				t.Errorf("fault %d, %d: %v, error %d", fault, i, got, e)
			}
		}
	}
	// A message that a faulty process only may have sent enables a rule and does not force it.
	p := family(t, stText)
	c := api.Config{States: []int{0, 0, 2}, Correct: 3, Sent: []int{1}, Faulty: []int{0}}
	if got, e := Stopped(p, size(4, 1, 1), c); !got || e != api.OK {
		t.Error(got, e)
	}
	if steps, _ := unfold.Steps(p, size(4, 1, 1), c); len(steps) != 2 {
		t.Error(steps)
	}
}

// P4.6: a configuration without processes is stopped.
func TestStoppedWithoutProcesses(t *testing.T) {
	p := family(t, replaced(t, stText, "resilience n-3*t-1\nresilience t-f\n", ""))
	c := api.Config{Sent: []int{0}, Faulty: []int{0}}
	if got, e := Stopped(p, size(3, 0, 3), c); !got || e != api.OK {
		t.Error(got, e)
	}
	if list, e := Unlocked(p, size(3, 0, 3), c); e != api.OK || !slices.Equal(list, []int{0, 1}) {
		t.Error(list, e)
	}
}

// P4.6, P4.7: any families and configurations, against plain functions.
func TestRunsAny(t *testing.T) {
	x := newSource(6)
	stopped, moved, failed := 0, 0, 0
	for range 12000 {
		p := x.family(t)
		s, ok := x.size(p, 6)
		if !ok {
			continue
		}
		c := x.config(p, s)
		if list, e := Unlocked(p, s, c); e != api.OK || !same(list, plainUnlocked(p, s, c)) {
			t.Fatalf("%v, error %d: %+v %v %v", list, e, p, s, c)
		}
		got, e := Stopped(p, s, c)
		if e != api.OK || got != plainStopped(p, s, c) {
			t.Fatalf("%v, error %d: %+v %v %v", got, e, p, s, c)
		}
		if got {
			stopped++
		}
		if len(p.Rules) == 0 {
			continue
		}
		rule, correct, faulty := x.IntN(len(p.Rules)), x.IntN(3), x.IntN(2)
		want := cloned(c)
		wantSteps, ok := plainAccelerate(p, s, &want, rule, correct, faulty)
		after, steps, e := Accelerate(p, s, c, rule, correct, faulty)
		if ok && (e != api.OK || !same(after, want) || !same(steps, wantSteps)) || !ok && (e != api.ErrStep || !isZero(after) || len(steps) > 0) {
			t.Fatalf("%v %v, error %d: %+v %v %v", after, steps, e, p, s, c)
		}
		if ok && len(steps) > 0 {
			moved++
		} else if !ok {
			failed++
		}
	}
	if stopped < 1000 || moved < 500 || failed < 1000 {
		t.Error(stopped, moved, failed)
	}
}

// P4.7: the smallest process of a side that is in the state goes first, and later steps see the messages of earlier ones.
func TestAccelerate(t *testing.T) {
	p, s := family(t, crText), size(6, 0, 2)
	c := api.Config{States: []int{1, 0, 2, 0, 0, 0}, Correct: 4, Sent: []int{3}, Faulty: []int{0}}
	for i, x := range []struct {
		rule, correct, faulty int
		steps                 []api.Step
		states                []int
		sent, faultySent      int
	}{
		{1, 0, 0, nil, []int{1, 0, 2, 0, 0, 0}, 3, 0},
		{1, 1, 0, []api.Step{step(1, 1)}, []int{1, 1, 2, 0, 0, 0}, 4, 0},
		{1, 2, 0, []api.Step{step(1, 1), step(1, 3)}, []int{1, 1, 2, 1, 0, 0}, 5, 0},
		{1, 0, 1, []api.Step{step(1, 4)}, []int{1, 0, 2, 0, 1, 0}, 3, 1},
		{1, 2, 2, []api.Step{step(1, 1), step(1, 3), step(1, 4), step(1, 5)}, []int{1, 1, 2, 1, 1, 1}, 5, 2},
		{0, 1, 0, []api.Step{step(0, 0)}, []int{2, 0, 2, 0, 0, 0}, 3, 0},
	} {
		d, steps, e := Accelerate(p, s, c, x.rule, x.correct, x.faulty)
		want := api.Config{States: x.states, Correct: 4, Sent: []int{x.sent}, Faulty: []int{x.faultySent}}
		if e != api.OK || !same(d, want) || !same(steps, x.steps) {
			t.Errorf("%d: %v, %v, error %d", i, d, steps, e)
		}
	}
	// In this chain the message of the first process is the one that the second needs.
	chain := family(t, "protocol p\ntopology clique\nstates a b\nmessages m\ninitial a\nrule r1 local a b when 1*m >= n-1 send m\n")
	before := api.Config{States: []int{0, 0, 0}, Correct: 3, Sent: []int{2}, Faulty: []int{0}}
	if d, steps, e := Accelerate(chain, size(3, 0, 0), before, 0, 3, 0); e != api.OK || len(steps) != 3 || d.Sent[0] != 5 {
		t.Errorf("%v, %v, error %d", d, steps, e)
	}
}

// P4.7: eight processes of each side.
func TestAccelerateMost(t *testing.T) {
	p := family(t, replaced(t, crText, "resilience n-f-1\n", ""))
	for _, f := range []int{0, 8} {
		c := api.Config{States: make([]int, 8), Correct: 8 - f, Sent: []int{0}, Faulty: []int{0}}
		if d, steps, e := Accelerate(p, size(8, 0, f), c, 1, 8-f, f); e != api.OK || len(steps) != 8 || d.Sent[0] != 8-f || d.Faulty[0] != f {
			t.Errorf("%v, %v, error %d", d, steps, e)
		}
		if _, _, e := Accelerate(p, size(8, 0, f), c, 1, f, 8-f); e != api.ErrStep {
			t.Errorf("error %d", e)
		}
	}
}

// P4.7: the errors in their order.
func TestAccelerateErrors(t *testing.T) {
	p, s := family(t, crText), size(3, 0, 1)
	c := api.Config{States: []int{0, 1, 0}, Correct: 2, Sent: []int{1}, Faulty: []int{0}}
	full := cloned(c)
	full.Sent[0] = api.MaxParameter
	full.Faulty[0] = api.MaxParameter
	wrong := cloned(c)
	wrong.Sent = nil
	for i, x := range []struct {
		c                     api.Config
		rule, correct, faulty int
		want                  api.Errno
	}{
		{wrong, 9, 9, 9, api.ErrArg},
		{wrong, 0, 0, 0, api.ErrArg},
		{c, -1, -1, 0, api.ErrRule},
		{c, 2, 0, 9, api.ErrRule},
		{c, minInt, 0, 0, api.ErrRule},
		{c, maxInt, 0, 0, api.ErrRule},
		{c, 0, -1, 0, api.ErrArg},
		{c, 0, 0, -1, api.ErrArg},
		{c, 0, 9, 0, api.ErrArg},
		{c, 0, 0, 9, api.ErrArg},
		{c, 0, maxInt, maxInt, api.ErrArg},
		{c, 0, minInt, 1, api.ErrArg},
		{c, 0, 8, 8, api.ErrStep},
		{c, 1, 2, 0, api.ErrStep}, // one correct process is in a
		{c, 1, 0, 2, api.ErrStep}, // and one faulty process
		{c, 0, 0, 1, api.ErrStep}, // no faulty process is in b
		{c, 0, 1, 0, api.ErrStep}, // 2*m >= n does not hold
		{full, 0, 1, 0, api.OK},
		{full, 1, 1, 0, api.ErrLarge},
		{full, 1, 0, 1, api.ErrLarge},
		{full, 1, 2, 0, api.ErrLarge},
		{full, 0, 2, 0, api.ErrStep},
		{c, 1, 1, 1, api.OK},
	} {
		d, steps, e := Accelerate(p, s, x.c, x.rule, x.correct, x.faulty)
		if e != x.want || e != api.OK && (!isZero(d) || len(steps) > 0) {
			t.Errorf("%d: %v, %v, error %d", i, d, steps, e)
		}
	}
}
