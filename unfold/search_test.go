package unfold

import (
	"testing"

	"familycheck/api"
)

// racyText is the family mx without the read of free.
func racyText(t *testing.T) string {
	t.Helper()
	return replaced(t, mxText, "read free ", "")
}

// P3.12
func TestReplay(t *testing.T) {
	p := family(t, mxText)
	at := func(value int, states ...int) api.Config {
		c := plainStart(p, states...)
		c.Value = value
		return c
	}
	many := family(t, "protocol p\ntopology clique\nstates a\nmessages m\ninitial a\nrule r local a a send m\n")
	full := plainStart(many, 0)
	full.Sent[0] = api.MaxParameter - 1
	over := cloned(full)
	over.Sent[0]++
	for i, x := range []struct {
		p    api.Protocol
		n    int
		r    api.Run
		want []api.Config
		e    api.Errno
	}{
		{p, 2, api.Run{Start: at(0, 0, 0)}, []api.Config{at(0, 0, 0)}, api.OK},
		{p, 2, api.Run{Start: at(0, 0, 0), Steps: []api.Step{alone(0, 1), alone(1, 1), alone(0, 0), alone(2, 1)}},
			[]api.Config{at(0, 0, 0), at(0, 0, 1), at(1, 0, 2), at(1, 1, 2), at(0, 1, 0)}, api.OK},
		// The start need not be initial.
		{p, 1, api.Run{Start: at(1, 2), Steps: []api.Step{alone(2, 0)}}, []api.Config{at(1, 2), at(0, 0)}, api.OK},
		{p, 2, api.Run{Start: at(0, 0)}, nil, api.ErrRun},
		{p, 1, api.Run{Start: at(2, 0), Steps: []api.Step{alone(7, 7)}}, nil, api.ErrRun},
		{p, 1, api.Run{Start: at(0, 0), Steps: []api.Step{alone(0, 0), alone(0, 0)}}, nil, api.ErrStep},
		{p, 1, api.Run{Start: at(0, 0), Steps: []api.Step{with(0, 0, 0)}}, nil, api.ErrStep},
		{p, 1, api.Run{Start: at(0, 0), Steps: []api.Step{alone(-1, 0)}}, nil, api.ErrStep},
		{many, 1, api.Run{Start: cloned(full), Steps: []api.Step{alone(0, 0)}}, []api.Config{cloned(full), over}, api.OK},
		{many, 1, api.Run{Start: cloned(full), Steps: []api.Step{alone(0, 0), alone(0, 0), alone(0, 1)}}, nil, api.ErrLarge},
		{many, 1, api.Run{Start: cloned(full), Steps: []api.Step{alone(0, 0), alone(0, 1), alone(0, 0)}}, nil, api.ErrStep},
	} {
		got, e := Replay(x.p, size(x.n, 0, 0), x.r)
		if e != x.e || !same(got, x.want) {
			t.Errorf("%d: error %d, %v", i, e, got)
		}
		if !apart(got, x.r.Start) {
			t.Errorf("%d: the configurations share memory", i)
		}
	}
}

// P3.14
func TestReach(t *testing.T) {
	mx, infect, tok := family(t, mxText), family(t, infectText), family(t, tokText)
	at := func(value int, states ...int) api.Config {
		c := plainStart(mx, states...)
		c.Value = value
		return c
	}
	for i, x := range []struct {
		p    api.Protocol
		q    api.Property
		n    int
		want []api.Config
	}{
		{mx, property(t, mx, "property q never count 2 c"), 1, []api.Config{at(0, 0), at(0, 1), at(1, 2)}},
		{mx, property(t, mx, "property q eventually goal c"), 2,
			[]api.Config{at(0, 0, 0), at(0, 0, 1), at(1, 0, 2), at(0, 1, 1), at(1, 1, 2)}},
		{infect, property(t, infect, "property q never count 1 s count 1 i"), 3, []api.Config{plainStart(infect, 0, 0, 0), plainStart(infect, 1, 1, 1)}},
		{tok, property(t, tok, "property q never count 2 tk"), 3,
			[]api.Config{plainStart(tok, 0, 1, 1), plainStart(tok, 1, 0, 1), plainStart(tok, 1, 1, 0)}},
	} {
		if got, e := Reach(x.p, x.q, size(x.n, 0, 0)); e != api.OK || !same(got, x.want) || !apart(got) {
			t.Errorf("%d: error %d, %v", i, e, got)
		}
	}
}

// P3.14: any family.
func TestReachOfAnyFamily(t *testing.T) {
	x := newSource(6)
	found := 0
	for range 2500 {
		p := x.family(t)
		q := x.property(t, p, x.between(api.Never, api.Eventually))
		s, ok := x.size(p, 4)
		if !ok {
			continue
		}
		g, ok := plainExplore(p, q, s, 300)
		if !ok {
			continue
		}
		want := g.forms(p)
		found += len(want)
		if got, e := Reach(p, q, s); e != api.OK || !same(got, want) {
			t.Fatalf("error %d, %v, not %v: %+v, %+v at %v", e, got, want, p, q, s)
		}
	}
	if found < 10000 {
		t.Error(found)
	}
}

// In exactText there are MaxConfigs configurations with eight processes.
const exactText = `protocol big
topology ring
states s0 s1 s2 s3 s4
initial s1 s4
leader s0 s1 s4
rule r1 neighbor s1 s4
rule r2 neighbor s4 s3 left s0 s1 s4 right s1 s2
`

// In aboveText there is one more with five processes.
const aboveText = `protocol above
topology ring
states s0 s1 s2 s3 s4 s5
initial s0 s1 s3 s4 s5
leader s0 s2 s5
rule r1 neighbor s0 s2 left s1 s2 s5
rule r2 neighbor s2 s3
`

// P3.14: the limit.
func TestReachLimit(t *testing.T) {
	p := family(t, exactText)
	q := property(t, p, "property q never count 1 s2")
	got, e := Reach(p, q, size(8, 0, 0))
	if e != api.OK || len(got) != api.MaxConfigs {
		t.Errorf("error %d, %d configurations", e, len(got))
	}
	above := family(t, aboveText)
	q = property(t, above, "property q never count 1 s3")
	if got, e := Reach(above, q, size(5, 0, 0)); e != api.ErrLarge || got != nil {
		t.Errorf("error %d, %d configurations", e, len(got))
	}
	if g, ok := plainExplore(above, q, size(5, 0, 0), api.MaxConfigs+1); !ok || len(g.list) != api.MaxConfigs+1 {
		t.Errorf("%v, %d configurations", ok, len(g.list))
	}
	endless := family(t, "protocol p\ntopology clique\nstates a\nmessages m\ninitial a\nrule r local a a send m\n")
	never := property(t, endless, "property q never count 1 a")
	if got, e := Reach(endless, never, size(1, 0, 0)); e != api.ErrLarge || got != nil {
		t.Errorf("error %d, %d configurations", e, len(got))
	}
	// Initial returns ErrLarge, although there are few canonical forms.
	wide := family(t, "protocol p\ntopology clique\nstates a b c d\ninitial a b c d\n")
	for n, want := range map[int]api.Errno{5: api.OK, 6: api.ErrLarge} {
		if got, e := Reach(wide, property(t, wide, "property q never count 1 a"), size(n, 0, 0)); e != want || e != api.OK && got != nil || e == api.OK && len(got) != 56 {
			t.Errorf("%d: error %d, %d configurations", n, e, len(got))
		}
	}
}

// P3.15
func TestIsViolation(t *testing.T) {
	p := family(t, racyText(t))
	q := property(t, p, "property q never count 2 c")
	goal := property(t, p, "property q eventually goal c")
	from := func(steps ...api.Step) api.Run { return api.Run{Start: plainStart(p, 0, 0), Steps: steps} }
	right := []api.Step{alone(0, 0), alone(0, 1), alone(1, 1), alone(1, 0)}
	other := from(right...)
	other.Start.States[0] = 1
	valued := from(right...)
	valued.Start.Value = 1
	three := from(right...)
	three.Start = plainStart(p, 0, 0, 0)
	for i, x := range []struct {
		q    api.Property
		n    int
		r    api.Run
		want bool
	}{
		{q, 2, from(right...), true},
		{q, 3, three, true},
		{q, 2, three, false},
		{goal, 2, from(right...), false},
		{q, 2, from(), false},
		{q, 2, from(right[:3]...), false},
		{q, 2, from(alone(0, 0), alone(0, 1), alone(1, 1), alone(1, 0), alone(2, 0)), false},
		{q, 2, from(alone(1, 0), alone(0, 0), alone(0, 1), alone(1, 1)), false},
		{q, 2, other, false},
		{q, 2, valued, false},
		{q, 2, api.Run{}, false},
	} {
		if got := IsViolation(p, x.q, size(x.n, 0, 0), x.r); got != x.want {
			t.Errorf("%d: %v", i, got)
		}
	}
}

// P3.15: what is an initial configuration.
func TestViolationStarts(t *testing.T) {
	crash := family(t, "protocol p\ntopology clique\nstates a b\nmessages m\nfaults crash\ninitial a b\n")
	q := property(t, crash, "property q never start a count 1 a")
	start := func(states ...int) api.Config {
		c := plainStart(crash, states...)
		c.Correct = 2
		return c
	}
	sent, faulty := start(0, 0, 0), start(0, 0, 0)
	sent.Sent[0], faulty.Faulty[0] = 1, 1
	for i, x := range []struct {
		c    api.Config
		want bool
	}{{start(0, 0, 0), true}, {start(0, 0, 1), true}, {start(0, 1, 0), false}, {start(1, 0, 0), false}, {sent, false}, {faulty, false}} {
		if got := IsViolation(crash, q, size(3, 0, 1), api.Run{Start: x.c}); got != x.want {
			t.Errorf("%d: %v", i, got)
		}
	}
	tok := family(t, tokText)
	any := property(t, tok, "property q never count 1 tk")
	for i, x := range []struct {
		states []int
		want   bool
	}{{[]int{0, 1}, true}, {[]int{1, 0}, false}, {[]int{0, 0}, false}} {
		if got := IsViolation(tok, any, size(2, 0, 0), api.Run{Start: plainStart(tok, x.states...)}); got != x.want {
			t.Errorf("%d: %v", i, got)
		}
	}
	// There may be more initial configurations than Initial returns.
	wide := family(t, "protocol p\ntopology clique\nstates a b c d\ninitial a b c d\n")
	if !IsViolation(wide, property(t, wide, "property q never count 3 d"), size(8, 0, 0), api.Run{Start: plainStart(wide, 0, 3, 1, 3, 2, 3, 0, 0)}) {
		t.Error("not accepted")
	}
}

// P3.15: a run that returns to a start more often than an exploration could.
func TestLongViolation(t *testing.T) {
	p := family(t, racyText(t))
	r := api.Run{Start: plainStart(p, 0, 0)}
	for range 10000 {
		r.Steps = append(r.Steps, alone(0, 0), alone(1, 0), alone(2, 0))
	}
	r.Steps = append(r.Steps, alone(0, 0), alone(0, 1), alone(1, 1), alone(1, 0))
	if !IsViolation(p, property(t, p, "property q never count 2 c"), size(2, 0, 0), r) {
		t.Error("not accepted")
	}
}

// P3.15: the examples.
func TestShortest(t *testing.T) {
	racy, mx, tok, infect := family(t, racyText(t)), family(t, mxText), family(t, tokText), family(t, infectText)
	ring := family(t, replaced(t, tokText, "initial no\nleader tk\n", "initial tk no\n"))
	for i, x := range []struct {
		p     api.Protocol
		text  string
		n     int
		steps int // -1: there is no violation
	}{
		{racy, "property q never count 2 c", 1, -1},
		{racy, "property q never count 2 c", 2, 4},
		{racy, "property q never count 2 c", 5, 4},
		{racy, "property q never count 3 c", 5, 6},
		{mx, "property q never count 2 c", 6, -1},
		{mx, "property q never count 1 i", 3, 0},
		{tok, "property q never count 2 tk", 8, -1},
		{tok, "property q never adjacent no tk", 1, -1},
		{tok, "property q never adjacent tk no", 4, 0},
		{ring, "property q never count 2 tk", 2, 0},
		{infect, "property q never count 1 s count 1 i", 8, -1},
		{infect, "property q never count 3 i", 8, 1},
	} {
		q, s := property(t, x.p, x.text), size(x.n, 0, 0)
		r, ok, e := Shortest(x.p, q, s)
		if e != api.OK || ok != (x.steps >= 0) {
			t.Errorf("%d: %v, error %d", i, ok, e)
		} else if ok && (len(r.Steps) != x.steps || !IsViolation(x.p, q, s, r)) {
			t.Errorf("%d: %+v", i, r)
		} else if !ok && !isZero(r) {
			t.Errorf("%d: a run where there is none", i)
		}
	}
}

// P3.15: any family.
func TestShortestOfAnyFamily(t *testing.T) {
	x := newSource(7)
	lengths := map[int]int{}
	for range 4000 {
		p := x.family(t)
		q := x.property(t, p, api.Never)
		s, ok := x.size(p, 4)
		if !ok {
			continue
		}
		g, complete := plainExplore(p, q, s, 300)
		want := -1
		for i := range g.list {
			if plainBad(p, q, g.list[i]) {
				want = g.depth[i]
				break
			}
		}
		if want < 0 && !complete {
			continue
		}
		lengths[want]++
		r, ok, e := Shortest(p, q, s)
		if e != api.OK || ok != (want >= 0) || ok && len(r.Steps) != want {
			t.Fatalf("%v, error %d, %v, not %d steps: %+v, %+v at %v", ok, e, r, want, p, q, s)
		}
		if ok {
			checkViolation(t, p, q, s, r)
		}
	}
	for length := -1; length <= 3; length++ {
		if lengths[length] < 10 {
			t.Error(lengths)
		}
	}
}

// checkViolation replays the run by the plain functions.
func checkViolation(t *testing.T, p api.Protocol, q api.Property, s api.Size, r api.Run) {
	t.Helper()
	isStart := false
	for _, c := range plainInitial(p, q, s) {
		isStart = isStart || same(c, r.Start)
	}
	list, e := Replay(p, s, r)
	if !isStart || e != api.OK || !IsViolation(p, q, s, r) {
		t.Fatalf("start %v, error %d: %+v", isStart, e, r)
	}
	c := r.Start
	for i, x := range r.Steps {
		if !plainEnabled(p, s, c, x, false) {
			t.Fatalf("step %d of %+v is not enabled", i, r)
		}
		c = plainApply(p, c, x)
		if !same(c, list[i+1]) {
			t.Fatalf("%v, not %v after step %d of %+v", list[i+1], c, i, r)
		}
	}
	if !plainBad(p, q, c) {
		t.Fatalf("%+v is not a violation", r)
	}
}

// In limitText, L(k) has (k+1)(k+2)/2 configurations with the process in c, k+1 with it in each of a0, a1 and a2, and one in s0: L(85) has MaxConfigs. A process in a0 can get to bad with 85 messages, in step 86.
const limitText = `protocol p
topology clique
states c a0 a1 a2 s0 bad
messages m k
values lo hi
initial c a0 a1 a2 s0
rule r1 local c c send m
rule r2 local c c send k
rule r3 local a0 a0 send m
rule r4 local a1 a1 send m
rule r5 local a2 a2 send m
rule go local a0 bad when 1*m >= 85
`

// P3.15: the limit. The sets up to L(k) count, and L(k) is examined for bad configurations before it is counted.
func TestShortestLimit(t *testing.T) {
	more := "rule r6 local s0 s0 write hi\n" // one more configuration
	for i, x := range []struct {
		text  string
		steps int // -1: ErrLarge
	}{
		{limitText, 86},
		{limitText + more, -1},
		{replaced(t, limitText, ">= 85", ">= 86"), -1},
		{replaced(t, limitText, ">= 85", ">= 84") + more, 85},
		{replaced(t, limitText, ">= 85", ">= 83") + more, 84},
	} {
		p := family(t, x.text)
		q := property(t, p, "property q never count 1 bad")
		r, ok, e := Shortest(p, q, size(1, 0, 0))
		if x.steps < 0 {
			if e != api.ErrLarge || ok || !isZero(r) {
				t.Errorf("%d: %v, error %d, %d steps", i, ok, e, len(r.Steps))
			}
		} else if e != api.OK || !ok || len(r.Steps) != x.steps || !IsViolation(p, q, size(1, 0, 0), r) {
			t.Errorf("%d: %v, error %d, %d steps", i, ok, e, len(r.Steps))
		}
	}
	// MaxConfigs configurations and no violation.
	big := family(t, exactText)
	if r, ok, e := Shortest(big, property(t, big, "property q never count 1 s2"), size(8, 0, 0)); e != api.OK || ok {
		t.Errorf("%v, error %d, %v", ok, e, r)
	}
	// ErrLarge of Initial, although every initial configuration is bad.
	wide := family(t, "protocol p\ntopology clique\nstates a b c d\ninitial a b c d\n")
	if r, ok, e := Shortest(wide, property(t, wide, "property q never count 1 a b c d"), size(6, 0, 0)); e != api.ErrLarge || ok || !isZero(r) {
		t.Errorf("%v, error %d, %v", ok, e, r)
	}
}

// P3.16
func TestSmallest(t *testing.T) {
	racy, st := family(t, racyText(t)), family(t, stText)
	weak := family(t, replaced(t, stText, "t-f\n", "t-f+1\n"))
	less := family(t, replaced(t, stText, "n-3*t-1\n", "n-3*t\n"))
	oak := family(t, treeText)
	unf := "property unf never start v0 count 1 ac"
	for i, x := range []struct {
		p     api.Protocol
		text  string
		most  int
		ok    bool
		s     api.Size
		steps int
	}{
		{racy, "property q never count 2 c", 8, true, size(2, 0, 0), 4},
		{racy, "property q never count 2 c", 2, true, size(2, 0, 0), 4},
		{racy, "property q never count 2 c", 1, false, api.Size{}, 0},
		{racy, "property q never count 2 c", 0, false, api.Size{}, 0},
		{racy, "property q never count 2 c", minInt, false, api.Size{}, 0},
		{racy, "property q never count 3 c", 5, true, size(3, 0, 0), 6},
		{st, unf, 6, false, api.Size{}, 0},
		{less, unf, 6, false, api.Size{}, 0},
		{weak, unf, 4, true, size(2, 0, 1), 2},
		{oak, "property q never count 3 a b c", 8, true, size(3, 0, 0), 0},
	} {
		q := property(t, x.p, x.text)
		s, r, ok, e := Smallest(x.p, q, x.most)
		if e != api.OK || ok != x.ok || s != x.s || len(r.Steps) != x.steps || ok && !IsViolation(x.p, q, s, r) {
			t.Errorf("%d: %v, error %d, %v, %+v", i, ok, e, s, r)
		}
	}
}

// P3.16: sizes with equal N are examined by F, then by T. The rule is enabled if t+f is at least 2, and some process must be correct.
func TestSmallestOrder(t *testing.T) {
	text := "protocol p\ntopology clique\nstates a b\nmessages m\nfaults crash\nCONDITIONinitial a\nrule r local a b when 1*m >= -t-f+2\n"
	for _, x := range []struct {
		condition string
		want      api.Size
	}{
		{"", size(2, 2, 0)},
		{"resilience f-1\n", size(2, 1, 1)},
		{"resilience n-t-2\n", size(3, 1, 1)},
		{"resilience n-t-f-2\n", size(4, 2, 0)},
	} {
		p := family(t, replaced(t, text, "CONDITION", x.condition))
		if s, r, ok, e := Smallest(p, property(t, p, "property q never count 1 b"), 8); e != api.OK || !ok || s != x.want {
			t.Errorf("%q: %v, error %d, %v, %v", x.condition, ok, e, s, r)
		}
	}
}

// P3.16: the order of the errors.
func TestSmallestErrors(t *testing.T) {
	racy := family(t, racyText(t))
	never, goal := property(t, racy, "property q never count 2 c"), property(t, racy, "property q eventually goal c")
	// At n=1 nothing is sent; from n=2 on messages are sent without end; with three processes two are in b at once.
	endless := family(t, "protocol p\ntopology clique\nstates a b\nmessages m\ninitial a\nrule go local a b\nrule r local b b exists a send m\n")
	two, three := property(t, endless, "property q never count 2 b"), property(t, endless, "property q never count 3 b")
	for i, x := range []struct {
		p    api.Protocol
		q    api.Property
		most int
		s    api.Size
		ok   bool
		e    api.Errno
	}{
		{racy, never, 9, api.Size{}, false, api.ErrArg},
		{racy, goal, 9, api.Size{}, false, api.ErrArg},
		{racy, never, maxInt, api.Size{}, false, api.ErrArg},
		{racy, goal, 8, api.Size{}, false, api.ErrClass},
		{racy, goal, -1, api.Size{}, false, api.ErrClass},
		{endless, two, 8, size(2, 0, 0), true, api.OK},
		{endless, three, 1, api.Size{}, false, api.OK},
		{endless, three, 2, api.Size{}, false, api.ErrLarge},
		{endless, three, 3, api.Size{}, false, api.ErrLarge},
	} {
		s, r, ok, e := Smallest(x.p, x.q, x.most)
		if s != x.s || ok != x.ok || e != x.e || !ok && !isZero(r) {
			t.Errorf("%d: %v, error %d, %v, %v", i, ok, e, s, r)
		}
	}
}

// P3.16: any family.
func TestSmallestOfAnyFamily(t *testing.T) {
	x := newSource(8)
	found := map[bool]int{}
	for range 600 {
		p := x.family(t)
		q := x.property(t, p, api.Never)
		want, wantError := api.Size{}, api.OK
		for n := 1; n <= 3 && want == (api.Size{}) && wantError == api.OK; n++ {
			for _, s := range plainSizes(p, n) {
				_, ok, e := Shortest(p, q, s)
				if wantError = e; ok {
					want = s
				}
				if ok || e != api.OK {
					break
				}
			}
		}
		s, r, ok, e := Smallest(p, q, 3)
		found[ok]++
		if s != want || ok != (want != api.Size{}) || e != wantError {
			t.Fatalf("%v, error %d, %v, not %v, %v: %+v, %+v", ok, e, s, want, r, p, q)
		}
	}
	if found[true] < 100 || found[false] < 100 {
		t.Error(found)
	}
}

// P3.15, P3.19: ErrClass comes before ErrLarge.
func TestSearchClass(t *testing.T) {
	p := family(t, "protocol p\ntopology clique\nstates a b c d\ninitial a b c d\n")
	never, goal := property(t, p, "property q never count 1 a"), property(t, p, "property q eventually goal a")
	for _, n := range []int{2, 6} {
		if r, ok, e := Shortest(p, goal, size(n, 0, 0)); e != api.ErrClass || ok || !isZero(r) {
			t.Errorf("%v, error %d, %+v", ok, e, r)
		}
		if l, ok, e := FairLasso(p, never, size(n, 0, 0)); e != api.ErrClass || ok || !isZero(l) {
			t.Errorf("%v, error %d, %+v", ok, e, l)
		}
	}
}
