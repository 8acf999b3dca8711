package protocol

import (
	"slices"
	"testing"

	"familycheck/api"
)

type propertySpoiler struct {
	e     api.Errno
	spoil func(q *api.Property)
}

// propertyErrors checks each of the spoilers, which stand in the order of their errors, alone and before each later one.
func propertyErrors(t *testing.T, p api.Protocol, q api.Property, list []propertySpoiler) {
	t.Helper()
	if e := ValidateProperty(p, q); e != api.OK {
		t.Fatalf("error %d", e)
	}
	for i, x := range list {
		one := deepCopy(q)
		x.spoil(&one)
		if e := ValidateProperty(p, one); e != x.e {
			t.Errorf("%d: error %d, not %d", i, e, x.e)
		}
		for k, y := range list[i+1:] {
			two := deepCopy(q)
			y.spoil(&two)
			x.spoil(&two)
			if e := ValidateProperty(p, two); e != x.e {
				t.Errorf("%d before %d: error %d, not %d", i, i+1+k, e, x.e)
			}
		}
	}
}

// P2.4, R2
func TestPropertyOfInvalidFamily(t *testing.T) {
	for e, p := range invalid() {
		for _, q := range []api.Property{never(), {}} {
			if got := ValidateProperty(p, q); got != e {
				t.Errorf("error %d, not %d", got, e)
			}
		}
	}
	if e := ValidateProperty(st(), api.Property{}); e != api.ErrName {
		t.Errorf("the zero value: error %d", e)
	}
}

// P2.4: the errors that come first in both kinds.
func firstPropertyErrors() []propertySpoiler {
	return []propertySpoiler{
		{api.ErrName, func(q *api.Property) { q.Name = "" }},
		{api.ErrName, func(q *api.Property) { q.Name = "goal" }},
		{api.ErrName, func(q *api.Property) { q.Name = "abcdefghijklm" }},
		{api.ErrArg, func(q *api.Property) { q.Kind = 0 }},
		{api.ErrArg, func(q *api.Property) { q.Kind = 3 }},
		{api.ErrArg, func(q *api.Property) { q.Kind = -1 }},
	}
}

func startErrors(outside int) []propertySpoiler {
	return []propertySpoiler{
		{api.ErrState, func(q *api.Property) { q.Start = []int{1, 0, 4} }},
		{api.ErrState, func(q *api.Property) { q.Start = []int{0, -1} }},
		{api.ErrArg, func(q *api.Property) { q.Start = []int{outside, 0} }},
		{api.ErrArg, func(q *api.Property) { q.Start = []int{0, 0} }},
		{api.ErrState, func(q *api.Property) { q.Start = []int{0, outside} }},
	}
}

func countErrors() []propertySpoiler {
	bad := func(c ...api.Count) func(q *api.Property) { return func(q *api.Property) { q.Bad = c } }
	good := api.Count{States: []int{0}, Least: 1}
	return []propertySpoiler{
		{api.ErrLarge, bad(api.Count{}, good, good, good)},
		{api.ErrArg, bad(good, api.Count{States: []int{0}}, api.Count{States: []int{9}})},
		{api.ErrState, bad(good, api.Count{States: []int{1, 0, 4}})},
		{api.ErrState, bad(api.Count{States: []int{-1}, Least: 9}, good)},
		{api.ErrArg, bad(api.Count{States: []int{1, 0}, Least: 1})},
		{api.ErrArg, bad(api.Count{States: []int{1, 1}, Least: 1})},
		{api.ErrArg, bad(api.Count{Least: 1})},
		{api.ErrArg, bad(api.Count{States: []int{1}, Least: 0})},
		{api.ErrArg, bad(good, good, api.Count{States: []int{1}, Least: 4})},
		{api.ErrArg, bad(api.Count{States: []int{1}, Least: minInt})},
	}
}

// P2.4
func TestNeverErrors(t *testing.T) {
	q := api.Property{Name: "q", Kind: api.Never, Start: []int{0}, Bad: []api.Count{{States: []int{1, 3}, Least: 2}}}
	list := slices.Concat(firstPropertyErrors(),
		[]propertySpoiler{{api.ErrArg, func(q *api.Property) { q.Goal = []int{9} }}},
		startErrors(3),
		[]propertySpoiler{{api.ErrArg, func(q *api.Property) { q.Bad, q.Adjacent = nil, nil }}},
		countErrors(),
		[]propertySpoiler{
			{api.ErrRule, func(q *api.Property) { q.Adjacent = []int{9} }},
			{api.ErrRule, func(q *api.Property) { q.Adjacent = []int{0, 1} }},
		})
	propertyErrors(t, full(), q, list)
}

// P2.4
func TestAdjacentErrors(t *testing.T) {
	adjacent := func(x ...int) func(q *api.Property) { return func(q *api.Property) { q.Adjacent = x } }
	list := slices.Concat(firstPropertyErrors(),
		[]propertySpoiler{{api.ErrArg, func(q *api.Property) { q.Goal = []int{0} }}},
		startErrors(2),
		[]propertySpoiler{{api.ErrArg, func(q *api.Property) { q.Bad, q.Adjacent = nil, nil }}},
		countErrors(),
		[]propertySpoiler{
			{api.ErrArg, adjacent(9)},
			{api.ErrArg, adjacent(0, 1, 9)},
			{api.ErrState, adjacent(3, 0)},
			{api.ErrState, adjacent(0, 3)},
			{api.ErrState, adjacent(-1, 0)},
			{api.ErrState, adjacent(0, -1)},
		})
	for _, topology := range []int{api.Line, api.Ring, api.Tree} {
		p := row()
		p.Topology, p.Rules = topology, nil
		propertyErrors(t, p, api.Property{Name: "q", Kind: api.Never, Adjacent: []int{2, 0}}, list)
		propertyErrors(t, p, api.Property{Name: "q", Kind: api.Never, Bad: never().Bad}, []propertySpoiler{
			{api.OK, adjacent(1, 1)}, {api.OK, adjacent()}, {api.OK, adjacent(0, 2)},
			{api.OK, func(q *api.Property) { q.Bad = slices.Repeat([]api.Count{{States: []int{0, 1, 2}, Least: 3}}, 3) }},
		})
	}
}

// P2.4
func TestEventuallyErrors(t *testing.T) {
	q := api.Property{Name: "q", Kind: api.Eventually, Start: []int{0, 2}, Goal: []int{1, 3}}
	goal := func(x ...int) func(q *api.Property) { return func(q *api.Property) { q.Goal = x } }
	list := slices.Concat(firstPropertyErrors(),
		[]propertySpoiler{
			{api.ErrArg, func(q *api.Property) { q.Bad = []api.Count{{}} }},
			{api.ErrArg, func(q *api.Property) { q.Adjacent = []int{9} }},
		},
		startErrors(3),
		[]propertySpoiler{
			{api.ErrState, goal(1, 0, 4)}, {api.ErrState, goal(-1)}, {api.ErrArg, goal(1, 0)}, {api.ErrArg, goal(1, 1)},
			{api.ErrArg, goal()},
		})
	propertyErrors(t, full(), q, list)
	propertyErrors(t, full(), q, []propertySpoiler{{api.OK, goal(0, 1, 2, 3)}, {api.OK, func(q *api.Property) { q.Start = nil }}, {api.OK, func(q *api.Property) { q.Bad, q.Adjacent = []api.Count{}, []int{} }}})
}

// P2.4, R6: properties with any values, against the plain list of the errors.
func TestValidateAnyProperty(t *testing.T) {
	x := newSource(2)
	seen := map[api.Errno]int{}
	for range 8000 {
		p := x.family()
		q := x.property(p)
		if e := ValidateProperty(p, q); e != api.OK {
			t.Fatalf("%+v, %+v: error %d", p, q, e)
		}
		for range x.between(1, 3) {
			x.disturb(&q)
		}
		if x.IntN(10) == 0 {
			x.disturb(&p)
		}
		before := deepCopy(q)
		e := ValidateProperty(p, q)
		if want := plainValidateProperty(p, q); e != want {
			t.Fatalf("%+v, %+v: error %d, not %d", p, q, e, want)
		}
		if !same(q, before) {
			t.Fatalf("%+v has changed to %+v", before, q)
		}
		seen[e]++
	}
	for _, e := range []api.Errno{api.OK, api.ErrArg, api.ErrName, api.ErrLarge, api.ErrState, api.ErrRule} {
		if seen[e] < 50 {
			t.Errorf("error %d: %d times", e, seen[e])
		}
	}
}
