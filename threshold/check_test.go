package threshold

import (
	"testing"

	"familycheck/api"
	"familycheck/protocol"
)

// guarded returns a family with a rule from a to b for each element of counts, with that many guards.
func guarded(counts ...int) api.Protocol {
	p := api.Protocol{Name: "p", Topology: api.Clique, States: []string{"a", "b"}, Messages: []string{"m"}, Initial: []int{0}}
	for i, count := range counts {
		guards := []api.Threshold{{Coef: 1, Bound: api.Linear{N: 1}}, {Coef: 2, Bound: api.Linear{N: 1}}}
		p.Rules = append(p.Rules, api.Rule{Name: names("r", 8)[i], Kind: api.Local, From: 0, To: 1, Read: -1, Write: -1, Guards: guards[:count]})
	}
	return p
}

// P4.1: the class of the family.
func TestCheckFamily(t *testing.T) {
	never := api.Property{Name: "q", Kind: api.Never, Bad: []api.Count{{States: []int{1}, Least: 1}}}
	goal := api.Property{Name: "q", Kind: api.Eventually, Goal: []int{1}}
	base := duo(t, api.Crash)
	for i, x := range []struct {
		p    api.Protocol
		want api.Errno
	}{
		{base, api.OK},
		{guarded(), api.OK},
		{changed(base, func(p *api.Protocol) { p.Values = []string{"x"} }), api.ErrClass},
		{changed(base, func(p *api.Protocol) { p.Rules[0].Exists = []int{0} }), api.ErrClass},
		{changed(base, func(p *api.Protocol) { p.Rules[0].Forall = []int{0} }), api.ErrClass},
		{changed(base, func(p *api.Protocol) { p.Rules[0].To = 2 }), api.ErrClass},
		{changed(base, func(p *api.Protocol) { p.Rules[0].To = 1 }), api.ErrClass},
		{family(t, "protocol p\ntopology clique\nstates a b\ninitial a\nrule r pair a b a b\n"), api.ErrClass},
		{family(t, "protocol p\ntopology clique\nstates a b\ninitial a\nrule r broadcast a b all a b\n"), api.ErrClass},
		{family(t, "protocol p\ntopology line\nstates a b\ninitial a\n"), api.ErrClass},
		{family(t, "protocol p\ntopology ring\nstates a b\ninitial a\nrule r neighbor a b\n"), api.ErrClass},
		{family(t, "protocol p\ntopology tree\nstates a b\ninitial a\n"), api.ErrClass},
		{family(t, mxText), api.ErrClass},
	} {
		if e := Check(x.p, never); e != x.want {
			t.Errorf("family %d, never: error %d, not %d", i, e, x.want)
		}
		q := goal
		q.Goal = []int{len(x.p.States) - 1} // no rule of a threshold family leaves the last state
		if e := Check(x.p, q); e != x.want {
			t.Errorf("family %d, eventually: error %d, not %d", i, e, x.want)
		}
	}
}

// P4.1: a goal that a rule leaves.
func TestCheckGoal(t *testing.T) {
	p := duo(t, api.Omission)
	for text, want := range map[string]api.Errno{
		"goal d": api.OK, "goal c d": api.OK, "goal b c d": api.OK, "goal a b c d": api.OK, "start b goal d": api.OK,
		"goal a": api.ErrClass, "goal b": api.ErrClass, "goal c": api.ErrClass, "goal a b": api.ErrClass, "goal b c": api.ErrClass, "goal a b c": api.ErrClass,
		"goal b d": api.ErrClass,
	} {
		if e := Check(p, property(t, p, "property q eventually "+text)); e != want {
			t.Errorf("%s: error %d, not %d", text, e, want)
		}
	}
	// A Never property may look at any states.
	if e := Check(p, property(t, p, "property q never count 1 a count 1 b")); e != api.OK {
		t.Error(e)
	}
}

// P4.1, R7: at most MaxCases cases, only for Eventually, and after the class.
func TestCheckCases(t *testing.T) {
	never := api.Property{Name: "q", Kind: api.Never, Bad: []api.Count{{States: []int{1}, Least: 1}}}
	goal := api.Property{Name: "q", Kind: api.Eventually, Goal: []int{1}}
	left := api.Property{Name: "q", Kind: api.Eventually, Goal: []int{0}}
	for i, x := range []struct {
		p     api.Protocol
		cases int
		want  api.Errno
	}{
		{guarded(), 1, api.OK},
		{guarded(0, 0, 0), 1, api.OK},
		{guarded(0, 2, 1), 6, api.OK},
		{guarded(1, 1, 1, 1, 1, 1), 64, api.OK},
		{guarded(1, 1, 0, 1, 1, 1, 0, 1), 64, api.OK},
		{guarded(2, 2, 1, 1, 1), 0, api.ErrLarge}, // 72
		{guarded(2, 2, 2, 2), 0, api.ErrLarge},    // 81
		{guarded(1, 1, 1, 1, 1, 1, 1), 0, api.ErrLarge},
		{guarded(2, 2, 2, 2, 2, 2, 2, 2), 0, api.ErrLarge},
	} {
		if e := Check(x.p, goal); e != x.want {
			t.Errorf("%d: error %d, not %d", i, e, x.want)
		}
		if n, e := Cases(x.p, goal); n != x.cases || e != x.want {
			t.Errorf("%d: %d cases, error %d", i, n, e)
		}
		if n, e := Cases(x.p, never); n != 1 || e != api.OK {
			t.Errorf("%d: %d cases of a Never property, error %d", i, n, e)
		}
		if len(x.p.Rules) == 0 {
			continue
		}
		if e := Check(x.p, left); e != api.ErrClass {
			t.Errorf("%d: error %d for a goal that is left", i, e)
		}
	}
	all := changed(goal, func(q *api.Property) { q.Goal = []int{0, 1} })
	if e := Check(guarded(2, 2, 2, 2), all); e != api.ErrLarge {
		t.Error(e)
	}
}

// P4.1: Check agrees with its sentences for any family and property.
func TestCheckAny(t *testing.T) {
	x := newSource(1)
	seen := map[api.Errno]int{}
	for range 20000 {
		p := x.family(t)
		q := x.property(t, p, x.between(api.Never, api.Eventually))
		switch x.IntN(4) {
		case 0:
			x.disturb(&p)
			x.disturb(&q)
		case 1:
			for i := range p.Rules {
				p.Rules[i].To = x.IntN(len(p.States))
			}
		case 2:
			if q.Kind == api.Eventually {
				q.Goal = x.someSet(len(p.States))
			}
		}
		want := protocol.ValidateProperty(p, q)
		if want == api.OK {
			want = plainCheck(p, q)
		}
		if e := Check(p, q); e != want {
			t.Fatalf("error %d, not %d: %+v %+v", e, want, p, q)
		}
		seen[want]++
	}
	if seen[api.OK] < 2000 || seen[api.ErrClass] < 500 {
		t.Error(seen)
	}
}

func plainCheck(p api.Protocol, q api.Property) api.Errno {
	isThreshold := p.Topology == api.Clique && len(p.Values) == 0
	for _, r := range p.Rules {
		isThreshold = isThreshold && r.Kind == api.Local && r.From < r.To && len(r.Exists) == 0 && len(r.Forall) == 0
	}
	if !isThreshold {
		return api.ErrClass
	}
	if q.Kind == api.Never {
		return api.OK
	}
	goal := map[int]bool{}
	for _, state := range q.Goal {
		goal[state] = true
	}
	for _, r := range p.Rules {
		if goal[r.From] && !goal[r.To] {
			return api.ErrClass
		}
	}
	if len(plainChoices(p, q)) > api.MaxCases {
		return api.ErrLarge
	}
	return api.OK
}
