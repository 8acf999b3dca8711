package unfold

import (
	"slices"
	"testing"

	"familycheck/api"
)

const abText = "protocol ab\ntopology clique\nstates a b\ninitial a\nrule x local a b\nrule y local b a\n"

// P3.18: the loop must be closed, avoid the goal, and be fair.
func TestIsLasso(t *testing.T) {
	p := family(t, abText)
	q := property(t, p, "property q eventually goal b")
	never := property(t, p, "property q never count 1 b")
	from := func(prefix, loop []api.Step, states ...int) api.Lasso {
		return api.Lasso{Start: plainStart(p, states...), Prefix: prefix, Loop: loop}
	}
	steps := func(list ...api.Step) []api.Step { return list }
	x0, x1, y0, y1 := alone(0, 0), alone(0, 1), alone(1, 0), alone(1, 1)
	other := from(nil, steps(x0, y0, x1, y1), 0, 0)
	other.Start.Value = 1
	for i, x := range []struct {
		q    api.Property
		l    api.Lasso
		want bool
	}{
		{q, from(nil, steps(x0, y0, x1, y1), 0, 0), true},
		{q, from(steps(x1), steps(y1, x0, y0, x1), 0, 0), true},
		{q, from(steps(x0, y0, x1), steps(y1, x0, y0, x1), 0, 0), true},
		// The other process is forced all the time and never moves.
		{q, from(nil, steps(x0, y0), 0, 0), false},
		{q, from(steps(x1), steps(y1, x1), 0, 0), false},
		// The process 0 may move for ever.
		{q, from(nil, nil, 0, 0), false},
		{q, from(steps(x0, y0), nil, 0, 0), false},
		// The loop does not lead back, or both processes are in b.
		{q, from(nil, steps(x0, y0, x1), 0, 0), false},
		{q, from(nil, steps(x0, x1, y0, y1), 0, 0), false},
		{q, from(steps(x0, x1, y0, y1), steps(x0, y0, x1, y1), 0, 0), false},
		{q, from(steps(x1), steps(x0, y0, y1, x1), 0, 0), false},
		// A step that is not enabled.
		{q, from(steps(y0), steps(x0, y0, x1, y1), 0, 0), false},
		{q, from(nil, steps(x0, y0, x1, y1, y1), 0, 0), false},
		{q, from(nil, steps(alone(minInt, 0)), 0, 0), false},
		{q, from(nil, steps(alone(0, maxInt)), 0, 0), false},
		// Other starts and properties.
		{q, from(nil, steps(y1, x0, y0, x1), 0, 1), false},
		{q, other, false},
		{q, from(nil, steps(x0, y0, x1, y1), 0, 0, 0), false},
		{q, api.Lasso{}, false},
		{never, from(nil, steps(x0, y0, x1, y1), 0, 0), false},
	} {
		if got := IsLasso(p, x.q, size(2, 0, 0), x.l); got != x.want {
			t.Errorf("%d: %v for %+v", i, got, x.l)
		}
	}
}

// P3.17, P3.18: a run that ends, and the goal at the start.
func TestEmptyLoops(t *testing.T) {
	p := family(t, "protocol p\ntopology clique\nstates a b c\ninitial a b\nrule x local a c exists b\n")
	stay := property(t, p, "property q eventually goal c")
	start := property(t, p, "property q eventually goal a")
	for i, x := range []struct {
		q      api.Property
		prefix []api.Step
		states []int
		want   bool
	}{
		{stay, nil, []int{0, 0}, true},
		{stay, nil, []int{0, 1}, false},
		{stay, []api.Step{alone(0, 0)}, []int{0, 1}, true},
		{stay, nil, []int{1, 1}, true},
		{start, nil, []int{0, 0}, false},
		{start, nil, []int{1, 1}, true},
	} {
		l := api.Lasso{Start: plainStart(p, x.states...), Prefix: x.prefix}
		if got := IsLasso(p, x.q, size(2, 0, 0), l); got != x.want {
			t.Errorf("%d: %v", i, got)
		}
	}
	// Without correct processes the goal is reached.
	arbitrary := family(t, "protocol p\ntopology clique\nstates a b\nfaults arbitrary\ninitial a\n")
	q := property(t, arbitrary, "property q eventually goal b")
	if IsLasso(arbitrary, q, size(1, 0, 1), api.Lasso{Start: plainStart(arbitrary)}) {
		t.Error("accepted without processes")
	}
	if !IsLasso(arbitrary, q, size(2, 0, 1), api.Lasso{Start: plainStart(arbitrary, 0)}) {
		t.Error("not accepted")
	}
}

// P3.17: faulty processes need not move; the messages that they may withhold force nothing.
func TestFairnessWithFaults(t *testing.T) {
	text := "protocol p\ntopology clique\nstates a b\nmessages m\nFAULTSinitial a\nrule r local a b when 1*m >= 1\nrule s local a b when 1*m >= -f+1 send m\n"
	one := "protocol p\ntopology clique\nstates a b\nmessages m\nFAULTSinitial a\nrule r local a b when 1*m >= 1 send m\nrule s local b b forall a send m\n"
	for _, x := range []struct {
		text, faults string
		s            api.Size
		want         bool
	}{
		// Nobody can start: all wait for the first message.
		{text, "", size(2, 0, 0), true},
		{one, "faults crash\n", size(2, 0, 1), true},
		// The rule s is forced at once with f=1, and then r by the message.
		{text, "faults crash\n", size(3, 0, 1), false},
		// Messages that a faulty process makes up do not force a correct one.
		{"protocol p\ntopology clique\nstates a b\nmessages m\nFAULTSinitial a\nrule r local a b when 1*m >= 1 send m\n", "faults arbitrary\n", size(3, 0, 1), true},
		{"protocol p\ntopology clique\nstates a b\nmessages m\nFAULTSinitial a\nrule r local a b when 1*m >= 0 send m\n", "faults arbitrary\n", size(3, 0, 1), false},
	} {
		p := family(t, replaced(t, x.text, "FAULTS", x.faults))
		q := property(t, p, "property q eventually goal b")
		l, ok, e := FairLasso(p, q, x.s)
		if e != api.OK || ok != x.want || ok && !plainIsLasso(p, q, x.s, l) {
			t.Errorf("%q: %v, error %d, %+v of %s", x.faults, ok, e, l, x.text)
		}
	}
}

// P3.18: with crash faults the messages of a faulty process force a correct one, with omission faults they do not.
func TestWithheldMessages(t *testing.T) {
	text := "protocol p\ntopology clique\nstates a b\nmessages m\nFAULTSinitial a b\nrule r local a b when 1*m >= 1\nrule s local b b forall a send m\n"
	for faults, want := range map[string]bool{"faults crash\n": false, "faults omission\n": true} {
		p := family(t, replaced(t, text, "FAULTS", faults))
		q := property(t, p, "property q eventually start a goal b")
		l := api.Lasso{Start: plainStart(p, 0, 1), Prefix: []api.Step{alone(1, 1)}}
		l.Start.Correct = 1
		if got := IsLasso(p, q, size(2, 0, 1), l); got != want {
			t.Errorf("%q: %v", faults, got)
		}
	}
}

// P3.19: the examples.
func TestFairLasso(t *testing.T) {
	ab, st, tok := family(t, abText), family(t, stText), family(t, tokText)
	once := family(t, replaced(t, abText, "rule y local b a\n", ""))
	for i, x := range []struct {
		p    api.Protocol
		text string
		s    api.Size
		want bool
	}{
		{st, "property cor eventually start v1 goal ac", size(4, 1, 1), false},
		{st, "property cor eventually start v1 goal ac", size(5, 1, 0), false},
		{st, "property any eventually goal ac", size(1, 0, 0), true},
		{st, "property any eventually goal ac", size(4, 1, 1), true},
		{ab, "property q eventually goal b", size(1, 0, 0), false},
		{ab, "property q eventually goal b", size(2, 0, 0), true},
		{ab, "property q eventually goal a b", size(2, 0, 0), false},
		{once, "property q eventually goal b", size(5, 0, 0), false},
		{tok, "property q eventually goal tk", size(1, 0, 0), false},
		{tok, "property q eventually goal tk", size(3, 0, 0), true},
		{tok, "property q eventually goal no", size(1, 0, 0), true},
	} {
		q := property(t, x.p, x.text)
		l, ok, e := FairLasso(x.p, q, x.s)
		if e != api.OK || ok != x.want || ok != IsLasso(x.p, q, x.s, l) || !ok && !isZero(l) {
			t.Errorf("%d: %v, error %d, %+v", i, ok, e, l)
		}
	}
}

// P3.18, P3.19: any family, and lassos with a change.
func TestFairLassoOfAnyFamily(t *testing.T) {
	x := newSource(9)
	found, loops, kept := map[bool]int{}, map[int]int{}, map[bool]int{}
	for range 12000 {
		p := x.family(t)
		q := x.property(t, p, api.Eventually)
		s, ok := x.size(p, 3)
		if !ok {
			continue
		}
		g, ok := plainExplore(p, q, s, 150)
		if !ok {
			continue
		}
		want := g.hasLasso(p, q, s)
		l, ok, e := FairLasso(p, q, s)
		if e != api.OK || ok != want {
			t.Fatalf("%v, error %d, %+v, not %v: %+v, %+v at %v", ok, e, l, want, p, q, s)
		}
		found[ok]++
		if !ok {
			continue
		}
		if !plainIsLasso(p, q, s, l) || !IsLasso(p, q, s, l) {
			t.Fatalf("%+v is not a lasso: %+v, %+v at %v", l, p, q, s)
		}
		loops[len(l.Loop)]++
		for range 5 {
			other := cloned(l)
			x.alterLasso(p, &other)
			right := plainIsLasso(p, q, s, other)
			kept[right]++
			if got := IsLasso(p, q, s, other); got != right {
				t.Fatalf("%v for %+v: %+v, %+v at %v", got, other, p, q, s)
			}
		}
	}
	if long := loops[4] + loops[5] + loops[6]; long < 50 || found[true] < 500 || found[false] < 500 || kept[true] < 100 || kept[false] < 500 {
		t.Error(found, loops, kept)
	}
}

// alterLasso changes a step or a state, or moves the end of the prefix.
func (x source) alterLasso(p api.Protocol, l *api.Lasso) {
	step := with(x.IntN(len(p.Rules)), x.IntN(max(1, len(l.Start.States))), -1)
	switch x.IntN(6) {
	case 0:
		l.Loop = append(l.Loop, step)
	case 1:
		l.Prefix = append(l.Prefix, step)
	case 2:
		l.Loop = l.Loop[:len(l.Loop)/2]
	case 3:
		if len(l.Loop) > 0 {
			l.Prefix = append(l.Prefix, l.Loop[0])
			l.Loop = slices.Concat(l.Loop[1:], l.Loop[:1])
		}
	case 4:
		l.Prefix = slices.Concat(l.Prefix, l.Loop)
	case 5:
		if len(l.Start.States) > 0 {
			l.Start.States[x.IntN(len(l.Start.States))] = x.IntN(len(p.States))
		}
	}
}

// P3.19: the limit. All reachable configurations count, not made canonical, also those after the goal.
func TestFairLassoLimit(t *testing.T) {
	s := size(8, 0, 3)
	same := "rule r broadcast s0 s0 all s0 s0 s0 s0 s0 s0\n" // all in s0: an initial configuration
	more := "rule r broadcast s0 s5 all s5 s5 s5 s5 s5 s5\n" // all in s5: one configuration more
	for i, x := range []struct {
		text, goal string
		want       bool
		e          api.Errno
	}{
		{manyText, "s5", true, api.OK},
		{manyText, "s0 s1", false, api.OK},
		{manyText + same, "s5", true, api.OK},
		{manyText + more, "s5", false, api.ErrLarge},
		{manyText + more, "s0 s1", false, api.ErrLarge},
	} {
		p := family(t, x.text)
		q := property(t, p, "property q eventually start s0 s1 goal "+x.goal)
		l, ok, e := FairLasso(p, q, s)
		if e != x.e || ok != x.want || ok != IsLasso(p, q, s, l) || !ok && !isZero(l) {
			t.Errorf("%d: %v, error %d, %+v", i, ok, e, l)
		}
	}
	wide := family(t, "protocol p\ntopology clique\nstates a b c d\ninitial a b c d\n")
	if l, ok, e := FairLasso(wide, property(t, wide, "property q eventually goal a"), size(6, 0, 0)); e != api.ErrLarge || ok || !isZero(l) {
		t.Errorf("%v, error %d, %+v", ok, e, l)
	}
	// Few configurations if they are made canonical.
	three := family(t, "protocol p\ntopology clique\nstates a b c\ninitial a\nrule x local a b\nrule y local a c\n")
	goal, any := property(t, three, "property q eventually goal a"), property(t, three, "property q never count 1 a")
	if l, ok, e := FairLasso(three, goal, size(8, 0, 0)); e != api.ErrLarge || ok || !isZero(l) {
		t.Errorf("%v, error %d, %+v", ok, e, l)
	}
	if list, e := Reach(three, any, size(8, 0, 0)); e != api.OK || len(list) != 45 {
		t.Errorf("error %d, %d configurations", e, len(list))
	}
}

// P3.19: SmallestLasso.
func TestSmallestLasso(t *testing.T) {
	ab, st := family(t, abText), family(t, stText)
	for i, x := range []struct {
		p    api.Protocol
		text string
		most int
		s    api.Size
		ok   bool
		e    api.Errno
	}{
		{ab, "property q eventually goal b", 3, size(2, 0, 0), true, api.OK},
		{ab, "property q eventually goal b", 8, size(2, 0, 0), true, api.OK},
		{ab, "property q eventually goal b", 1, api.Size{}, false, api.OK},
		{ab, "property q eventually goal b", 0, api.Size{}, false, api.OK},
		{ab, "property q eventually goal b", minInt, api.Size{}, false, api.OK},
		{ab, "property q eventually goal b", 9, api.Size{}, false, api.ErrArg},
		{ab, "property q never count 1 b", 9, api.Size{}, false, api.ErrArg},
		{ab, "property q never count 1 b", 2, api.Size{}, false, api.ErrClass},
		{ab, "property q never count 1 b", -5, api.Size{}, false, api.ErrClass},
		{st, "property cor eventually start v1 goal ac", 5, api.Size{}, false, api.OK},
		{st, "property any eventually goal ac", 5, size(1, 0, 0), true, api.OK},
	} {
		q := property(t, x.p, x.text)
		s, l, ok, e := SmallestLasso(x.p, q, x.most)
		if s != x.s || ok != x.ok || e != x.e || ok != IsLasso(x.p, q, s, l) || !ok && !isZero(l) {
			t.Errorf("%d: %v, error %d, %v, %+v", i, ok, e, s, l)
		}
	}
	// At n=2 there are too many configurations; at n=1 the only process moves once.
	endless := family(t, "protocol p\ntopology clique\nstates a b\nmessages m\ninitial a\nrule go local a b\nrule r local b b exists a send m\n")
	for most, want := range map[int]api.Errno{1: api.OK, 2: api.ErrLarge, 8: api.ErrLarge} {
		if s, l, ok, e := SmallestLasso(endless, property(t, endless, "property q eventually goal b"), most); e != want || ok || !isZero(s) || !isZero(l) {
			t.Errorf("%d: %v, error %d, %v, %+v", most, ok, e, s, l)
		}
	}
}

// P3.18, P3.19: the last of eight rules is forced for the last of eight processes alone, and then the seven others are.
func TestLastPair(t *testing.T) {
	text := "protocol p\ntopology line\nstates a b\ninitial a\n"
	for i := range 7 {
		text += "rule r" + string(rune('1'+i)) + " neighbor b b\n"
	}
	p := family(t, text+"rule r8 neighbor a b at last\n")
	q, s := property(t, p, "property q eventually goal b"), size(8, 0, 0)
	start := plainStart(p, make([]int, 8)...)
	if IsLasso(p, q, s, api.Lasso{Start: start}) {
		t.Error("a run that ends although a step is forced")
	}
	loop := []api.Step{alone(0, 7), alone(1, 7), alone(2, 7), alone(3, 7), alone(4, 7), alone(5, 7), alone(6, 7)}
	for i := range loop {
		l := api.Lasso{Start: start, Prefix: []api.Step{alone(7, 7)}, Loop: slices.Concat(loop[:i], loop[i+1:])}
		if IsLasso(p, q, s, l) {
			t.Errorf("a loop without %v", loop[i])
		}
	}
	l, ok, e := FairLasso(p, q, s)
	if e != api.OK || !ok || !IsLasso(p, q, s, l) || !plainIsLasso(p, q, s, l) {
		t.Errorf("%v, error %d, %+v", ok, e, l)
	}
}
