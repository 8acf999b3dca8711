package unfold

import (
	"testing"

	"familycheck/api"
)

// isEnabled fails the test if the package and the plain functions differ.
func isEnabled(t *testing.T, p api.Protocol, s api.Size, c api.Config, x api.Step) bool {
	t.Helper()
	got, e := Enabled(p, s, c, x)
	if e != api.OK || got != plainEnabled(p, s, c, x, false) {
		t.Fatalf("%v in %v: %v, error %d", x, c, got, e)
	}
	return got
}

type stepCase struct {
	c    api.Config
	x    api.Step
	want bool
}

func stepCases(t *testing.T, p api.Protocol, s api.Size, list []stepCase) {
	t.Helper()
	for i, x := range list {
		if got := isEnabled(t, p, s, x.c, x.x); got != x.want {
			t.Errorf("%d: %v in %v: %v", i, x.x, x.c, got)
		}
	}
}

// flagged returns a configuration of the family flag with two correct processes and a faulty one.
func flagged(value int, sent, faulty []int, states ...int) api.Config {
	return api.Config{States: states, Correct: 2, Sent: sent, Faulty: faulty, Value: value}
}

// P3.7: Local rules. The guards of the first rule demand 2*m >= t+2 and 1*k >= 1.
func TestLocalEnabled(t *testing.T) {
	p := family(t, flagText)
	none, two := []int{0, 0}, []int{1, 1}
	stepCases(t, p, size(3, 1, 1), []stepCase{
		{flagged(0, []int{2, 1}, none, 0, 0, 0), alone(0, 0), true},
		{flagged(0, []int{2, 1}, none, 0, 0, 0), alone(0, 2), true},
		{flagged(0, two, []int{1, 0}, 0, 0, 0), alone(0, 1), true},
		{flagged(0, none, []int{2, 1}, 0, 0, 0), alone(0, 1), true},
		{flagged(0, two, none, 0, 0, 0), alone(0, 0), false},
		{flagged(0, []int{2, 0}, none, 0, 0, 0), alone(0, 0), false},
		{flagged(1, []int{2, 1}, none, 0, 0, 0), alone(0, 0), false},
		{flagged(0, []int{2, 1}, none, 1, 0, 0), alone(0, 0), false},
		{flagged(0, []int{2, 1}, none, 0, 0, 0), with(0, 0, 1), false},
		{flagged(0, []int{2, 1}, none, 0, 0, 0), with(0, 0, 0), false},
		{flagged(0, []int{2, 1}, none, 0, 0, 0), with(0, 0, -2), false},
		// exists a: another process, also a faulty one.
		{flagged(0, none, none, 1, 0, 2), alone(1, 0), true},
		{flagged(1, none, none, 1, 2, 0), alone(1, 0), true},
		{flagged(1, none, none, 1, 1, 2), alone(1, 0), false},
		// forall b c: all other processes, the faulty one too.
		{flagged(0, none, none, 2, 1, 2), alone(2, 0), true},
		{flagged(0, none, none, 2, 0, 2), alone(2, 0), false},
		{flagged(0, none, none, 2, 1, 0), alone(2, 0), false},
		{flagged(0, none, none, 0, 1, 2), alone(2, 2), false},
		{flagged(0, none, none, 1, 1, 2), alone(2, 2), true},
	})
	// A process that is alone is not another one, and all the others are none.
	self := family(t, "protocol p\ntopology clique\nstates a b\ninitial a\nrule any local a b exists a\nrule each local a b forall b\n")
	stepCases(t, self, size(1, 0, 0), []stepCase{
		{plainStart(self, 0), alone(0, 0), false},
		{plainStart(self, 0), alone(1, 0), true},
	})
}

// P3.7: which messages count.
func TestMessagesThatCount(t *testing.T) {
	text := "protocol p\ntopology clique\nstates a b\nmessages m\nFAULTSinitial a\nrule r local a b when 1*m >= 3\n"
	for _, x := range []struct {
		faults       string
		sent, faulty int
		f            int
		want, forced bool
	}{
		{"", 3, 0, 0, true, true}, {"", 2, 0, 0, false, false},
		{"faults crash\n", 3, 0, 1, true, true}, {"faults crash\n", 2, 1, 1, true, true}, {"faults crash\n", 0, 3, 1, true, true}, {"faults crash\n", 1, 1, 2, false, false},
		{"faults omission\n", 3, 0, 1, true, true}, {"faults omission\n", 2, 1, 1, true, false}, {"faults omission\n", 0, 3, 1, true, false}, {"faults omission\n", 1, 1, 2, false, false},
		{"faults arbitrary\n", 3, 0, 1, true, true}, {"faults arbitrary\n", 2, 0, 1, true, false}, {"faults arbitrary\n", 0, 0, 3, true, false}, {"faults arbitrary\n", 1, 0, 1, false, false},
	} {
		p := family(t, replaced(t, text, "FAULTS", x.faults))
		s := size(4, 0, x.f)
		c := plainStart(p, make([]int, Modeled(p, s))...)
		c.Correct, c.Sent[0], c.Faulty[0] = 4-x.f, x.sent, x.faulty
		if got := isEnabled(t, p, s, c, alone(0, 0)); got != x.want {
			t.Errorf("%+v: enabled %v", x, got)
		}
		if got, e := Forced(p, s, c, 0, 0); e != api.OK || got != x.forced {
			t.Errorf("%+v: forced %v, error %d", x, got, e)
		}
	}
}

// P3.7: Pair and Broadcast rules.
func TestSharedEnabled(t *testing.T) {
	p := family(t, flagText)
	none := []int{0, 0}
	stepCases(t, p, size(3, 1, 1), []stepCase{
		{flagged(1, none, none, 0, 2, 2), with(3, 0, 1), true},
		{flagged(1, none, none, 0, 2, 2), with(3, 0, 2), true},
		{flagged(1, none, none, 2, 2, 0), with(3, 2, 0), true},
		{flagged(0, none, none, 0, 2, 2), with(3, 0, 1), false},
		{flagged(1, none, none, 0, 1, 2), with(3, 0, 1), false},
		{flagged(1, none, none, 0, 2, 2), with(3, 1, 2), false},
		{flagged(1, none, none, 0, 2, 2), with(3, 0, 0), false},
		{flagged(1, none, none, 0, 2, 2), alone(3, 0), false},
		{flagged(1, none, none, 0, 2, 2), with(3, 0, 3), false},
		{flagged(0, none, none, 2, 0, 1), alone(4, 0), true},
		{flagged(0, none, none, 0, 0, 2), alone(4, 2), true},
		{flagged(1, none, none, 2, 0, 1), alone(4, 0), false},
		{flagged(0, none, none, 2, 0, 1), with(4, 0, 1), false},
		{flagged(0, none, none, 1, 0, 1), alone(4, 0), false},
	})
	same := family(t, "protocol p\ntopology clique\nstates a\ninitial a\nrule r pair a a a a\n")
	stepCases(t, same, size(2, 0, 0), []stepCase{
		{plainStart(same, 0, 0), with(0, 0, 1), true},
		{plainStart(same, 0, 0), with(0, 1, 0), true},
		{plainStart(same, 0, 0), with(0, 1, 1), false},
	})
	if got := isEnabled(t, same, size(1, 0, 0), plainStart(same, 0), with(0, 0, 0)); got {
		t.Error("a process is its own partner")
	}
}

// P3.7: Neighbor and Pass rules in a Line and a Ring.
func TestRowEnabled(t *testing.T) {
	p := family(t, lineText)
	row := func(states ...int) api.Config { return plainStart(p, states...) }
	stepCases(t, p, size(3, 0, 0), []stepCase{
		{row(2, 0, 0), alone(0, 1), true},
		{row(1, 0, 0), alone(0, 1), false},
		{row(2, 0, 1), alone(0, 1), false},
		{row(0, 0, 0), alone(0, 0), false},
		{row(2, 2, 0), alone(0, 2), false},
		{row(2, 0, 0), with(0, 1, 2), false},
		{row(1, 1, 1), alone(1, 0), true},
		{row(1, 1, 1), alone(1, 1), false},
		{row(1, 1, 1), alone(1, 2), false},
		{row(1, 2, 1), alone(2, 2), true},
		{row(1, 1, 1), alone(2, 2), false},
		{row(2, 1, 1), alone(2, 1), false},
		{row(2, 1, 0), with(3, 0, 1), true},
		{row(2, 1, 1), with(3, 0, 2), false},
		{row(1, 2, 0), with(3, 1, 0), false},
		{row(0, 1, 2), with(3, 2, 1), false},
		{row(0, 1, 2), alone(3, 2), false},
		{row(1, 0, 2), with(4, 2, 1), true},
		{row(0, 2, 0), with(4, 1, 0), true},
		{row(0, 2, 0), with(4, 1, 2), false},
		{row(2, 0, 0), with(4, 0, 1), false},
		{row(0, 1, 2), alone(4, 2), false},
		{row(2, 0, 0), alone(4, 0), false},
	})
	stepCases(t, p, size(1, 0, 0), []stepCase{{row(1), alone(1, 0), true}, {row(1), alone(2, 0), false}})
	ring := family(t, "protocol p\ntopology ring\nstates a b\ninitial a\nrule r neighbor a b left a right a\nrule go pass a b a a right\nrule back pass a b a b left\n")
	around := func(states ...int) api.Config { return plainStart(ring, states...) }
	stepCases(t, ring, size(1, 0, 0), []stepCase{{around(0), alone(0, 0), true}, {around(0), with(1, 0, 0), false}})
	stepCases(t, ring, size(2, 0, 0), []stepCase{
		{around(0, 0), alone(0, 0), true}, {around(0, 1), alone(0, 0), false},
		{around(0, 0), with(1, 0, 1), true}, {around(0, 0), with(2, 0, 1), true}, {around(0, 0), with(2, 1, 0), true},
	})
	stepCases(t, ring, size(3, 0, 0), []stepCase{
		{around(0, 1, 0), with(1, 2, 0), true}, {around(0, 1, 0), with(1, 0, 2), false},
		{around(0, 1, 0), with(2, 0, 2), true}, {around(0, 1, 0), with(2, 2, 0), false},
		{around(0, 1, 0), alone(0, 0), false}, {around(0, 0, 0), alone(0, 2), true},
	})
}

// P3.7: Neighbor and Pass rules in a Tree: process 0 is the root, 2 the only inner node below it.
func TestTreeEnabled(t *testing.T) {
	p := family(t, treeText)
	tree := func(states ...int) api.Config {
		c := plainStart(p, states...)
		c.Shape = []int{2, 0, 2, 0, 0}
		return c
	}
	stepCases(t, p, size(5, 0, 0), []stepCase{
		{tree(0, 1, 2, 0, 0), alone(0, 0), true},
		{tree(0, 1, 1, 0, 0), alone(0, 0), true},
		{tree(0, 1, 0, 0, 0), alone(0, 0), false},
		{tree(0, 2, 1, 0, 0), alone(0, 0), false},
		{tree(0, 0, 0, 1, 2), alone(0, 2), true},
		{tree(0, 0, 0, 1, 2), alone(0, 1), false},
		{tree(2, 0, 0, 0, 0), alone(1, 0), true},
		{tree(2, 0, 2, 0, 0), alone(1, 2), false},
		{tree(2, 0, 0, 0, 0), alone(2, 1), true},
		{tree(2, 0, 0, 0, 0), alone(2, 2), false},
		{tree(0, 0, 2, 0, 0), alone(2, 4), true},
		{tree(0, 0, 1, 0, 0), alone(2, 4), false},
		{tree(2, 0, 0, 0, 0), with(3, 0, 1), true},
		{tree(2, 0, 0, 0, 0), with(3, 0, 2), true},
		{tree(2, 0, 0, 0, 0), with(3, 0, 3), false},
		{tree(2, 2, 2, 0, 0), with(3, 1, 0), false},
		{tree(0, 0, 2, 0, 0), with(3, 2, 0), false},
		{tree(0, 0, 2, 0, 0), with(3, 2, 4), true},
		{tree(0, 1, 0, 0, 0), with(4, 1, 0), true},
		{tree(0, 1, 0, 0, 0), with(4, 1, 2), false},
		{tree(0, 0, 0, 1, 0), with(4, 3, 2), true},
		{tree(1, 0, 0, 1, 0), with(4, 0, 1), false},
		{tree(1, 0, 0, 1, 0), alone(4, 0), false},
	})
}

// P3.7: steps that denote nothing are not enabled, and there is no other error.
func TestStepsWithoutMeaning(t *testing.T) {
	p := family(t, flagText)
	c := flagged(0, []int{0, 0}, []int{0, 0}, 2, 0, 1)
	numbers := []int{minInt, -2, -1, 0, 1, 2, 3, 4, 5, 6, maxInt}
	for _, rule := range numbers {
		for _, process := range numbers {
			for _, partner := range numbers {
				x := with(rule, process, partner)
				enabled := isEnabled(t, p, size(3, 1, 1), c, x)
				got, e := Apply(p, size(3, 1, 1), c, x)
				if enabled != (e == api.OK) || !enabled && (e != api.ErrStep || !isZero(got)) {
					t.Fatalf("%v: %v, error %d, %v", x, enabled, e, got)
				}
			}
			forced, e := Forced(p, size(3, 1, 1), c, rule, process)
			if want := plainForced(p, size(3, 1, 1), c, rule, process); e != api.OK || forced != want {
				t.Fatalf("rule %d, process %d: error %d, %v", rule, process, e, forced)
			}
		}
	}
}

// P3.8
func TestApply(t *testing.T) {
	p := family(t, flagText)
	s := size(3, 1, 1)
	row, oak := family(t, lineText), family(t, treeText)
	tree := func(states ...int) api.Config {
		c := plainStart(oak, states...)
		c.Shape = []int{2, 0, 0}
		return c
	}
	for i, x := range []struct {
		p       api.Protocol
		s       api.Size
		c, want api.Config
		x       api.Step
	}{
		{p, s, flagged(0, []int{2, 1}, []int{4, 5}, 0, 0, 0), flagged(1, []int{3, 2}, []int{4, 5}, 1, 0, 0), alone(0, 0)},
		{p, s, flagged(0, []int{2, 1}, []int{4, 5}, 0, 0, 0), flagged(1, []int{2, 1}, []int{5, 6}, 0, 0, 1), alone(0, 2)},
		{p, s, flagged(1, []int{2, 1}, []int{4, 5}, 1, 0, 0), flagged(1, []int{2, 1}, []int{4, 5}, 2, 0, 0), alone(1, 0)},
		{p, s, flagged(1, []int{2, 1}, []int{4, 5}, 0, 2, 2), flagged(0, []int{2, 1}, []int{4, 5}, 1, 2, 0), with(3, 0, 2)},
		{p, s, flagged(0, []int{2, 1}, []int{4, 5}, 0, 2, 1), flagged(1, []int{2, 1}, []int{4, 5}, 1, 0, 2), alone(4, 1)},
		{row, size(3, 0, 0), plainStart(row, 2, 0, 0), plainStart(row, 2, 1, 0), alone(0, 1)},
		{row, size(3, 0, 0), plainStart(row, 0, 2, 1), plainStart(row, 0, 0, 2), with(3, 1, 2)},
		{row, size(3, 0, 0), plainStart(row, 1, 0, 2), plainStart(row, 1, 0, 1), with(4, 2, 1)},
		{oak, size(3, 0, 0), tree(2, 0, 0), tree(0, 0, 2), with(3, 0, 2)},
		{oak, size(3, 0, 0), tree(2, 0, 0), tree(2, 0, 2), alone(2, 2)},
	} {
		before := cloned(x.c)
		got, e := Apply(x.p, x.s, x.c, x.x)
		if e != api.OK || !same(got, x.want) {
			t.Errorf("%d: error %d, %+v", i, e, got)
		}
		if !same(x.c, before) || !apart(got, x.c) {
			t.Errorf("%d: the result shares memory with the argument", i)
		}
	}
}

// P3.8: the limit of the numbers of messages, after ErrStep.
func TestApplyLimit(t *testing.T) {
	p, s := family(t, flagText), size(3, 1, 1)
	const most = api.MaxParameter
	for i, x := range []struct {
		sent, faulty []int
		x            api.Step
		want         api.Errno
	}{
		{[]int{most - 1, most - 1}, []int{most, most}, alone(0, 0), api.OK},
		{[]int{most, 1}, []int{0, 0}, alone(0, 0), api.ErrLarge},
		{[]int{2, most}, []int{0, 0}, alone(0, 1), api.ErrLarge},
		{[]int{most, most}, []int{most - 1, most - 1}, alone(0, 2), api.OK},
		{[]int{2, 2}, []int{most, 0}, alone(0, 2), api.ErrLarge},
		{[]int{2, 2}, []int{0, most}, alone(0, 2), api.ErrLarge},
		{[]int{most, most}, []int{most, most}, alone(1, 0), api.ErrStep},
		{[]int{most, most}, []int{most, most}, with(0, 0, 1), api.ErrStep},
	} {
		c := flagged(0, x.sent, x.faulty, 0, 0, 0)
		got, e := Apply(p, s, c, x.x)
		if e != x.want || e != api.OK && !isZero(got) {
			t.Errorf("%d: error %d, not %d: %+v", i, e, x.want, got)
		}
		if enabled, e := Enabled(p, s, c, x.x); e != api.OK || enabled != (x.want != api.ErrStep) {
			t.Errorf("%d: enabled %v, error %d", i, enabled, e)
		}
	}
	// A rule that sends one message does not count the others.
	one := family(t, "protocol p\ntopology clique\nstates a\nmessages m k\ninitial a\nrule r local a a send k\n")
	c := plainStart(one, 0)
	c.Sent[0] = most
	if got, e := Apply(one, size(1, 0, 0), c, alone(0, 0)); e != api.OK || !same(got.Sent, []int{most, 1}) {
		t.Errorf("error %d, %+v", e, got)
	}
}

// P3.9
func TestSteps(t *testing.T) {
	p := family(t, flagText)
	got, e := Steps(p, size(3, 1, 1), flagged(1, []int{0, 0}, []int{0, 0}, 0, 2, 2))
	want := []api.Step{with(3, 0, 1), with(3, 0, 2)}
	if e != api.OK || !same(got, want) {
		t.Errorf("error %d, %v", e, got)
	}
	got, e = Steps(p, size(3, 1, 1), flagged(0, []int{2, 1}, []int{0, 0}, 0, 2, 0))
	want = []api.Step{alone(0, 0), alone(0, 2), alone(4, 1)}
	if e != api.OK || !same(got, want) {
		t.Errorf("error %d, %v", e, got)
	}
	if got, e := Steps(p, size(3, 1, 1), flagged(1, []int{0, 0}, []int{0, 0}, 0, 0, 0)); e != api.OK || len(got) != 0 {
		t.Errorf("error %d, %v", e, got)
	}
	two := family(t, "protocol p\ntopology clique\nstates a\ninitial a\nrule r pair a a a a\n")
	got, e = Steps(two, size(3, 0, 0), plainStart(two, 0, 0, 0))
	want = []api.Step{with(0, 0, 1), with(0, 0, 2), with(0, 1, 0), with(0, 1, 2), with(0, 2, 0), with(0, 2, 1)}
	if e != api.OK || !same(got, want) {
		t.Errorf("error %d, %v", e, got)
	}
}

// P3.10
func TestForced(t *testing.T) {
	p := family(t, flagText)
	none, s := []int{0, 0}, size(3, 1, 1)
	for i, x := range []struct {
		c             api.Config
		rule, process int
		want          bool
	}{
		{flagged(1, none, none, 0, 2, 2), 3, 0, true},
		{flagged(1, none, none, 0, 0, 2), 3, 1, true},
		{flagged(1, none, none, 2, 2, 0), 3, 2, false},
		{flagged(0, none, none, 0, 2, 2), 3, 0, false},
		{flagged(0, none, none, 2, 0, 2), 4, 0, true},
		{flagged(0, none, none, 0, 0, 2), 4, 2, false},
		{flagged(0, []int{2, 1}, none, 0, 0, 0), 0, 1, true},
		{flagged(0, []int{2, 1}, none, 0, 0, 0), 0, 2, false},
		{flagged(0, none, []int{2, 1}, 0, 0, 0), 0, 1, true},
	} {
		if got, e := Forced(p, s, x.c, x.rule, x.process); e != api.OK || got != x.want {
			t.Errorf("%d: %v, error %d", i, got, e)
		}
	}
	// The document's example 1.
	st := family(t, stText)
	c := plainStart(st, 0, 0, 2)
	c.Sent[0] = 1
	if !isEnabled(t, st, size(4, 1, 1), c, alone(1, 0)) {
		t.Error("not enabled")
	}
	if got, e := Forced(st, size(4, 1, 1), c, 1, 0); e != api.OK || got {
		t.Errorf("%v, error %d", got, e)
	}
	// With the error of ValidConfig.
	c.Value = 1
	for _, rule := range []int{-1, 1} {
		if got, e := Forced(st, size(4, 1, 1), c, rule, 0); e != api.ErrArg || got {
			t.Errorf("%v, error %d", got, e)
		}
	}
}

// P3.7 to P3.10: any step of any configuration.
func TestAnySteps(t *testing.T) {
	x := newSource(4)
	enabled, forced := map[int]int{}, map[int]int{}
	for range 6000 {
		p := x.family(t)
		s, ok := x.size(p, 5)
		if !ok {
			continue
		}
		c := x.config(p, s)
		want := plainSteps(p, s, c)
		if got, e := Steps(p, s, c); e != api.OK || !same(got, want) {
			t.Fatalf("error %d, %v, not %v, in %+v of %+v at %v", e, got, want, c, p, s)
		}
		for _, step := range want {
			enabled[p.Rules[step.Rule].Kind]++
			if got, e := Apply(p, s, c, step); e != api.OK || !same(got, plainApply(p, c, step)) {
				t.Fatalf("error %d, %+v after %v in %+v of %+v", e, got, step, c, p)
			}
		}
		for rule := -1; rule <= len(p.Rules); rule++ {
			for process := -1; process <= len(c.States); process++ {
				isForced := plainForced(p, s, c, rule, process)
				if got, e := Forced(p, s, c, rule, process); e != api.OK || got != isForced {
					t.Fatalf("error %d, rule %d, process %d: %v in %+v of %+v at %v", e, rule, process, got, c, p, s)
				}
				if isForced {
					forced[p.Rules[rule].Kind]++
				}
			}
		}
		step := with(x.between(-1, len(p.Rules)), x.between(-1, len(c.States)), x.between(-2, len(c.States)))
		isEnabled(t, p, s, c, step)
	}
	for kind := api.Local; kind <= api.Pass; kind++ {
		if enabled[kind] < 200 || forced[kind] < 200 {
			t.Errorf("kind %d: enabled %d times, forced %d times", kind, enabled[kind], forced[kind])
		}
	}
}
