package protocol

import (
	"slices"
	"strconv"
	"testing"

	"familycheck/api"
)

// A spoiler makes a family invalid, with the error that is wanted then.
type spoiler struct {
	e     api.Errno
	spoil func(p *api.Protocol)
}

// inOrder checks that each of the spoilers, which stand in the order of their errors, gives its error, alone and before each later one.
func inOrder(t *testing.T, make func() api.Protocol, list []spoiler) {
	t.Helper()
	if e := Validate(make()); e != api.OK {
		t.Fatalf("error %d", e)
	}
	for i, x := range list {
		p := make()
		x.spoil(&p)
		if e := Validate(p); e != x.e {
			t.Errorf("%d: error %d, not %d", i, e, x.e)
		}
		for k, y := range list[i+1:] {
			p := make()
			y.spoil(&p)
			x.spoil(&p)
			if e := Validate(p); e != x.e {
				t.Errorf("%d before %d: error %d, not %d", i, i+1+k, e, x.e)
			}
		}
	}
}

func someNames(letter string, count int) []string {
	var names []string
	for i := range count {
		names = append(names, letter+strconv.Itoa(i))
	}
	return names
}

// P2.2
func TestValidateSamples(t *testing.T) {
	for text, p := range samples() {
		if e := Validate(p); e != api.OK {
			t.Errorf("%.12s: error %d", text, e)
		}
	}
	if e := Validate(api.Protocol{}); e != api.ErrName {
		t.Errorf("the zero value: error %d", e)
	}
	least := api.Protocol{Name: "a", Topology: api.Clique, States: []string{"a"}, Initial: []int{0}}
	if e := Validate(least); e != api.OK {
		t.Errorf("the least family: error %d", e)
	}
	// R4
	least.Messages, least.Values, least.Resilience, least.Leader, least.Rules = []string{}, []string{}, []api.Linear{}, []int{}, []api.Rule{}
	if e := Validate(least); e != api.OK {
		t.Errorf("empty slices: error %d", e)
	}
}

// P2.2: each error, and that it comes before all later ones.
func TestValidateOrder(t *testing.T) {
	inOrder(t, full, []spoiler{
		{api.ErrName, func(p *api.Protocol) { p.Name = "" }},
		{api.ErrName, func(p *api.Protocol) { p.Name = "tree" }},
		{api.ErrArg, func(p *api.Protocol) { p.Topology = 0 }},
		{api.ErrArg, func(p *api.Protocol) { p.Topology = 5 }},
		{api.ErrArg, func(p *api.Protocol) { p.Fault = -1 }},
		{api.ErrArg, func(p *api.Protocol) { p.Fault = 4 }},
		{api.ErrArg, func(p *api.Protocol) { p.States = nil }},
		{api.ErrArg, func(p *api.Protocol) { p.States = []string{} }},
		{api.ErrLarge, func(p *api.Protocol) { p.States = someNames("e", 7) }},
		{api.ErrLarge, func(p *api.Protocol) { p.Messages = someNames("e", 4) }},
		{api.ErrLarge, func(p *api.Protocol) { p.Values = someNames("e", 4) }},
		{api.ErrLarge, func(p *api.Protocol) { p.Resilience = make([]api.Linear, 5) }},
		{api.ErrLarge, func(p *api.Protocol) { p.Rules = slices.Repeat(p.Rules[:1], 9) }},
		{api.ErrName, func(p *api.Protocol) { p.States[3] = "D" }},
		{api.ErrName, func(p *api.Protocol) { p.States[3] = "a" }},
		{api.ErrName, func(p *api.Protocol) { p.Messages[1] = "read" }},
		{api.ErrName, func(p *api.Protocol) { p.Messages[2] = "d" }},
		{api.ErrName, func(p *api.Protocol) { p.Values[1] = "" }},
		{api.ErrName, func(p *api.Protocol) { p.Values[1] = "m0" }},
		{api.ErrArg, func(p *api.Protocol) { p.Topology = api.Line }},
		{api.ErrArg, func(p *api.Protocol) { p.Topology = api.Ring }},
		{api.ErrArg, func(p *api.Protocol) { p.Topology = api.Tree }},
		{api.ErrArg, func(p *api.Protocol) { p.Leader = []int{9} }},
		{api.ErrLarge, func(p *api.Protocol) { p.Resilience[0].C = 101 }},
		{api.ErrLarge, func(p *api.Protocol) { p.Resilience[1].N = -101 }},
		{api.ErrLarge, func(p *api.Protocol) { p.Resilience[1].T = minInt }},
		{api.ErrLarge, func(p *api.Protocol) { p.Resilience[1].F = maxInt }},
		{api.ErrState, func(p *api.Protocol) { p.Initial = []int{2, 0, 4} }},
		{api.ErrState, func(p *api.Protocol) { p.Initial = []int{2, 0, -1} }},
		{api.ErrArg, func(p *api.Protocol) { p.Initial = []int{1, 0} }},
		{api.ErrArg, func(p *api.Protocol) { p.Initial = []int{1, 1} }},
		{api.ErrArg, func(p *api.Protocol) { p.Initial = nil }},
		{api.ErrArg, func(p *api.Protocol) { p.Initial = []int{} }},
		{api.ErrState, func(p *api.Protocol) { p.Rules[0].From = 4 }},
		{api.ErrName, func(p *api.Protocol) { p.Rules[1].Name = "" }},
		{api.ErrLarge, func(p *api.Protocol) { p.Rules[3].Guards = []api.Threshold{{Coef: 8}, {Coef: 9}} }},
	})
}

// P2.2: the same of a family that is no clique.
func TestValidateOrderOfLines(t *testing.T) {
	inOrder(t, row, []spoiler{
		{api.ErrArg, func(p *api.Protocol) { p.Fault = 4 }},
		{api.ErrLarge, func(p *api.Protocol) { p.Messages = someNames("e", 4) }},
		{api.ErrName, func(p *api.Protocol) { p.Messages = []string{"a"} }},
		{api.ErrArg, func(p *api.Protocol) { p.Messages = []string{"m"} }},
		{api.ErrArg, func(p *api.Protocol) { p.Values = []string{"v"} }},
		{api.ErrArg, func(p *api.Protocol) { p.Resilience = []api.Linear{{C: 200}} }},
		{api.ErrArg, func(p *api.Protocol) { p.Fault = api.Crash }},
		{api.ErrArg, func(p *api.Protocol) { p.Fault = api.Arbitrary }},
		{api.ErrState, func(p *api.Protocol) { p.Initial = []int{3} }},
		{api.ErrArg, func(p *api.Protocol) { p.Initial = []int{1, 0} }},
		{api.ErrArg, func(p *api.Protocol) { p.Initial = nil }},
		{api.ErrState, func(p *api.Protocol) { p.Leader = []int{1, 1, 3} }},
		{api.ErrState, func(p *api.Protocol) { p.Leader = []int{-1} }},
		{api.ErrArg, func(p *api.Protocol) { p.Leader = []int{2, 1} }},
		{api.ErrArg, func(p *api.Protocol) { p.Leader = []int{1, 1} }},
		{api.ErrRule, func(p *api.Protocol) { p.Rules[0].Kind = api.Local }},
	})
}

// P2.2, R7: the limits themselves, and one above them.
func TestValidateLimits(t *testing.T) {
	guard := func(coef int) api.Rule {
		return api.Rule{Kind: api.Local, Read: -1, Write: -1, Guards: []api.Threshold{{Coef: coef}, {Coef: 1}}}
	}
	named := func(rules ...api.Rule) []api.Rule {
		for i := range rules {
			rules[i].Name = "r" + strconv.Itoa(i)
		}
		return rules
	}
	plain := api.Rule{Kind: api.Local, Read: -1, Write: -1}
	for i, x := range []spoiler{
		{api.OK, func(p *api.Protocol) { p.Name = "abcdefghijkl" }},
		{api.ErrName, func(p *api.Protocol) { p.Name = "abcdefghijklm" }},
		{api.OK, func(p *api.Protocol) { p.States, p.Initial = someNames("e", 6), []int{0, 1, 2, 3, 4, 5} }},
		{api.ErrLarge, func(p *api.Protocol) { p.States = someNames("e", 7) }},
		{api.OK, func(p *api.Protocol) { p.Messages = someNames("e", 3) }},
		{api.ErrLarge, func(p *api.Protocol) { p.Messages = someNames("e", 4) }},
		{api.OK, func(p *api.Protocol) { p.Values = someNames("e", 3) }},
		{api.ErrLarge, func(p *api.Protocol) { p.Values = someNames("e", 4) }},
		{api.OK, func(p *api.Protocol) { p.Resilience = make([]api.Linear, 4) }},
		{api.ErrLarge, func(p *api.Protocol) { p.Resilience = make([]api.Linear, 5) }},
		{api.OK, func(p *api.Protocol) { p.Resilience[0] = api.Linear{C: 100, N: -100, T: 100, F: -100} }},
		{api.ErrLarge, func(p *api.Protocol) { p.Resilience[0] = api.Linear{C: -101} }},
		{api.OK, func(p *api.Protocol) { p.Rules = named(slices.Repeat([]api.Rule{plain}, 8)...) }},
		{api.ErrLarge, func(p *api.Protocol) { p.Rules = named(slices.Repeat([]api.Rule{plain}, 9)...) }},
		{api.OK, func(p *api.Protocol) { p.Rules = named(guard(2), guard(3), guard(2), guard(1)) }},
		{api.ErrLarge, func(p *api.Protocol) { p.Rules = named(guard(2), guard(3), guard(4)) }},
		{api.OK, func(p *api.Protocol) { p.Rules = nil }},
		{api.OK, func(p *api.Protocol) { p.Fault = api.NoFault }},
		{api.OK, func(p *api.Protocol) { p.Fault = api.Omission }},
	} {
		p := st()
		x.spoil(&p)
		if e := Validate(p); e != x.e {
			t.Errorf("%d: error %d, not %d", i, e, x.e)
		}
	}
}

// P2.2: threshold guards differ if one of their numbers does.
func TestDifferentThresholds(t *testing.T) {
	base := api.Threshold{Coef: 1}
	for i, other := range []api.Threshold{{Message: 1, Coef: 1}, {Coef: 2}, {Coef: 1, Bound: api.Linear{C: 1}}, {Coef: 1, Bound: api.Linear{N: 1}}, {Coef: 1, Bound: api.Linear{T: 1}}, {Coef: 1, Bound: api.Linear{F: 1}}} {
		p := full()
		p.Rules[0].Guards = []api.Threshold{{Coef: 50}, {Coef: 60}}
		p.Rules[3].Guards = []api.Threshold{base, base}
		if e := Validate(p); e != api.OK {
			t.Errorf("%d: error %d", i, e)
		}
		p.Rules[3].Guards = []api.Threshold{base, other}
		if e := Validate(p); e != api.ErrLarge {
			t.Errorf("%d: error %d", i, e)
		}
	}
}

// P2.2, P2.3, R6: families with any values, against the plain list of the errors.
func TestValidateAnyFamily(t *testing.T) {
	x := newSource(1)
	seen := map[api.Errno]int{}
	for range 8000 {
		p := x.family()
		if e := Validate(p); e != api.OK {
			t.Fatalf("%+v: error %d", p, e)
		}
		for range x.between(1, 4) {
			x.disturb(&p)
		}
		before := deepCopy(p)
		e := Validate(p)
		if want := plainValidate(p); e != want {
			t.Fatalf("%+v: error %d, not %d", p, e, want)
		}
		if !same(p, before) {
			t.Fatalf("%+v has changed to %+v", before, p)
		}
		seen[e]++
	}
	for _, e := range []api.Errno{api.OK, api.ErrArg, api.ErrName, api.ErrLarge, api.ErrState, api.ErrRule} {
		if seen[e] < 50 {
			t.Errorf("error %d: %d times", e, seen[e])
		}
	}
}

// P2.2, P2.3: lists of any length are examined in time.
func TestValidateLongLists(t *testing.T) {
	long := make([]int, 1<<20)
	for i := range long {
		long[i] = i
	}
	guards := make([]api.Threshold, 1<<20)
	for i := range guards {
		guards[i].Coef = 1 + i%100
	}
	inOrder(t, full, []spoiler{
		{api.ErrLarge, func(p *api.Protocol) { p.States = make([]string, 1<<20) }},
		{api.ErrState, func(p *api.Protocol) { p.Initial = long }},
		{api.ErrLarge, func(p *api.Protocol) { p.Rules[0].Guards = guards }},
		{api.ErrState, func(p *api.Protocol) { p.Rules[0].Exists = long }},
		{api.ErrArg, func(p *api.Protocol) { p.Rules[2].Response = long }},
	})
}
