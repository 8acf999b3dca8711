package protocol

import (
	"slices"
	"testing"

	"familycheck/api"
)

// P2.8
func TestThresholds(t *testing.T) {
	low := api.Threshold{Coef: 1, Bound: api.Linear{C: 1, T: 1}}
	high := api.Threshold{Coef: 1, Bound: api.Linear{N: 1, T: -1}}
	third := api.Threshold{Coef: 2, Bound: api.Linear{N: 1, T: -1}}
	mixed, none := st(), st()
	mixed.Rules[0].Guards = []api.Threshold{high, high}
	mixed.Rules[1].Guards = []api.Threshold{third, high}
	mixed.Rules[2].Guards = []api.Threshold{third, low}
	none.Rules = none.Rules[:1]
	for i, x := range []struct {
		p    api.Protocol
		want []api.Threshold
	}{
		{st(), []api.Threshold{low, high}},
		{mixed, []api.Threshold{high, third, low}},
		{full(), []api.Threshold{{Message: 1, Coef: 2, Bound: api.Linear{N: 3, T: -1}}, {Coef: 1}}},
		{none, nil}, {mx(), nil}, {tok(), nil},
	} {
		before := deepCopy(x.p)
		l, e := Thresholds(x.p)
		if e != api.OK || !slices.Equal(l, x.want) || !apart(l, x.p) || !same(x.p, before) {
			t.Errorf("%d: %v, error %d", i, l, e)
		}
	}
	for e, p := range invalid() {
		if l, got := Thresholds(p); got != e || !isZero(l) {
			t.Errorf("%v, error %d, not %d", l, got, e)
		}
	}
}

// P2.8
func TestStarts(t *testing.T) {
	some, all, empty := never(), never(), never()
	some.Start = []int{2}
	all.Start = []int{0, 2}
	empty.Start = []int{}
	goal := api.Property{Name: "q", Kind: api.Eventually, Start: []int{0}, Goal: []int{1}}
	for i, x := range []struct {
		q    api.Property
		want []int
	}{{never(), []int{0, 2}}, {some, []int{2}}, {all, []int{0, 2}}, {empty, []int{0, 2}}, {goal, []int{0}}} {
		p := full()
		l, e := Starts(p, x.q)
		if e != api.OK || !slices.Equal(l, x.want) || !apart(l, p, x.q) {
			t.Errorf("%d: %v, error %d", i, l, e)
		}
	}
	wrong := never()
	wrong.Start = []int{1}
	if l, e := Starts(full(), wrong); e != api.ErrState || !isZero(l) {
		t.Errorf("%v, error %d", l, e)
	}
	wrong.Name = ""
	if l, e := Starts(full(), wrong); e != api.ErrName || !isZero(l) {
		t.Errorf("%v, error %d", l, e)
	}
	for e, p := range invalid() {
		if l, got := Starts(p, wrong); got != e || !isZero(l) {
			t.Errorf("%v, error %d, not %d", l, got, e)
		}
	}
}

// P2.9
func TestClassify(t *testing.T) {
	least := func() api.Protocol {
		return api.Protocol{Name: "p", Topology: api.Clique, States: []string{"a", "b", "c", "d"}, Initial: []int{0}, Rules: []api.Rule{{Name: "r", Kind: api.Local, From: 1, To: 2, Read: -1, Write: -1}}}
	}
	everything := Classes{Threshold: true, Cover: true, Monadic: true}
	for i, x := range []struct {
		spoil func(p *api.Protocol)
		want  Classes
	}{
		{func(p *api.Protocol) {}, everything},
		{func(p *api.Protocol) { p.Rules = nil }, everything},
		{func(p *api.Protocol) { p.States = append(p.States, "e") }, Classes{Threshold: true, Cover: true}},
		{func(p *api.Protocol) { p.States = append(p.States, "e", "f") }, Classes{Threshold: true, Cover: true}},
		{func(p *api.Protocol) { p.Values = []string{"v"} }, Classes{Cover: true, Monadic: true}},
		{func(p *api.Protocol) { p.Messages = []string{"m"} }, Classes{Threshold: true}},
		{func(p *api.Protocol) { p.Resilience = make([]api.Linear, 1) }, Classes{Threshold: true}},
		{func(p *api.Protocol) { p.Fault = api.Crash }, Classes{Threshold: true}},
		{func(p *api.Protocol) { p.Fault = api.Omission }, Classes{Threshold: true}},
		{func(p *api.Protocol) { p.Fault = api.Arbitrary }, Classes{Threshold: true}},
		{func(p *api.Protocol) { p.Rules[0].To = 1 }, Classes{Cover: true, Monadic: true}},
		{func(p *api.Protocol) { p.Rules[0].To = 0 }, Classes{Cover: true, Monadic: true}},
		{func(p *api.Protocol) { p.Rules[0].Exists = []int{0} }, Classes{Cover: true, Monadic: true}},
		{func(p *api.Protocol) { p.Rules[0].Forall = []int{0} }, Classes{Monadic: true}},
		{func(p *api.Protocol) { p.Rules[0].Kind = api.Pair }, Classes{Cover: true, Monadic: true}},
		{func(p *api.Protocol) { p.Rules[0].Kind, p.Rules[0].Response = api.Broadcast, []int{0, 0, 0, 0} }, Classes{Cover: true, Monadic: true}},
		{func(p *api.Protocol) { p.Fault, p.Rules[0].To = api.Crash, 0 }, Classes{}},
		{func(p *api.Protocol) {
			p.Rules = append([]api.Rule{{Name: "s", Kind: api.Pair, Read: -1, Write: -1}}, p.Rules...)
		}, Classes{Cover: true, Monadic: true}},
		{func(p *api.Protocol) {
			p.Rules = append(p.Rules, api.Rule{Name: "s", Kind: api.Local, To: 1, Read: -1, Write: -1, Forall: []int{1}})
		}, Classes{Monadic: true}},
		{func(p *api.Protocol) { p.Topology, p.Rules = api.Line, nil }, Classes{Word: true}},
		{func(p *api.Protocol) { p.Topology, p.Rules = api.Ring, nil }, Classes{Word: true}},
		{func(p *api.Protocol) { p.Topology, p.Rules = api.Tree, nil }, Classes{Tree: true}},
	} {
		p := least()
		x.spoil(&p)
		if c, e := Classify(p); e != api.OK || c != x.want {
			t.Errorf("%d: %v, error %d", i, c, e)
		}
	}
	for text, want := range map[string]Classes{stText: {Threshold: true}, mxText: {Cover: true, Monadic: true}, fullText: {}, tokText: {Word: true}, rowText: {Word: true}, oakText: {Tree: true}} {
		if c, e := Classify(samples()[text]); e != api.OK || c != want {
			t.Errorf("%.12s: %v, error %d", text, c, e)
		}
	}
	for e, p := range invalid() {
		if c, got := Classify(p); got != e || !isZero(c) {
			t.Errorf("%v, error %d, not %d", c, got, e)
		}
	}
}
