package invariant

import (
	"math/rand/v2"
	"reflect"
	"slices"
	"strconv"
	"testing"

	"familycheck/api"
	"familycheck/protocol"
)

// source makes families that are small enough for plain searches and whose rules are often enabled.
type source struct{ *rand.Rand }

func newSource(seed uint64) source { return source{rand.New(rand.NewPCG(seed, 8))} }

func (x source) between(low, high int) int { return low + x.IntN(high-low+1) }

// set returns a set of indexes below count, most often an empty one.
func (x source) set(count int) []int {
	if x.IntN(3) > 0 {
		return nil
	}
	return x.someSet(count)
}

func (x source) someSet(count int) []int {
	list := []int{x.IntN(count)}
	for i := range count {
		if x.IntN(2) == 0 && i != list[0] {
			list = append(list, i)
		}
	}
	slices.Sort(list)
	return list
}

func names(letter string, count int) []string {
	var list []string
	for i := range count {
		list = append(list, letter+strconv.Itoa(i))
	}
	return list
}

// family returns a monadic family with so many states at most. If cover is true, it is a cover family, too.
func (x source) family(t testing.TB, states int, cover bool) api.Protocol {
	t.Helper()
	p := api.Protocol{Name: "p", Topology: api.Clique, States: names("s", x.between(1, states)), Values: names("v", x.between(0, 3))}
	p.Initial = x.someSet(len(p.States))
	for i := range x.between(0, 4) {
		r := x.rule(p)
		if !cover && r.Kind == api.Local {
			r.Forall = x.set(len(p.States))
		}
		r.Name = "r" + strconv.Itoa(i)
		p.Rules = append(p.Rules, r)
	}
	if e := protocol.Validate(p); e != api.OK {
		t.Fatalf("error %d: %+v", e, p)
	}
	return p
}

func (x source) rule(p api.Protocol) api.Rule {
	states := len(p.States)
	r := api.Rule{Kind: x.between(api.Local, api.Broadcast), From: x.IntN(states), To: x.IntN(states)}
	r.Read, r.Write = x.between(-1, len(p.Values)-1), x.between(-1, len(p.Values)-1)
	switch r.Kind {
	case api.Local:
		r.Exists = x.set(states)
	case api.Pair:
		r.PartnerFrom, r.PartnerTo = x.IntN(states), x.IntN(states)
	case api.Broadcast:
		for range states {
			r.Response = append(r.Response, x.IntN(states))
		}
	}
	return r
}

// property returns a Never property with so many counts at most.
func (x source) property(t testing.TB, p api.Protocol, counts int) api.Property {
	t.Helper()
	q := api.Property{Name: "q", Kind: api.Never}
	for _, i := range p.Initial {
		if x.IntN(3) == 0 {
			q.Start = append(q.Start, i)
		}
	}
	for range x.between(1, counts) {
		q.Bad = append(q.Bad, api.Count{States: x.someSet(len(p.States)), Least: x.between(1, 3)})
	}
	if e := protocol.ValidateProperty(p, q); e != api.OK {
		t.Fatalf("error %d: %+v", e, q)
	}
	return q
}

// element returns an element with from 1 to most processes.
func (x source) element(p api.Protocol, most int) api.Element {
	e := api.Element{Value: x.IntN(plainValues(p)), Counts: make([]int, len(p.States))}
	for range x.between(1, most) {
		e.Counts[x.IntN(len(p.States))]++
	}
	return e
}

// clause returns a valid clause; each is the number of processes that it chooses at most. Few clauses hold nowhere.
func (x source) clause(p api.Protocol, each int) api.Clause {
	c := api.Clause{Some: x.set(len(p.States))}
	if len(p.Values) > 0 {
		c.Values = x.set(len(p.Values))
	}
	for range x.between(0, each) {
		c.Each = append(c.Each, x.someSet(len(p.States)))
	}
	if len(c.Each)+len(c.Some)+len(c.Values) == 0 && x.IntN(10) > 0 {
		c.Each = append(c.Each, x.someSet(len(p.States)))
		c.Some = x.someSet(len(p.States))
	}
	return c
}

func (x source) clauses(p api.Protocol, each, most int) []api.Clause {
	var l []api.Clause
	for range x.IntN(most + 1) {
		l = append(l, x.clause(p, each))
	}
	return l
}

// disturb changes a number or a list somewhere in *target.
func (x source) disturb(target any) {
	var places []reflect.Value
	var visit func(v reflect.Value)
	visit = func(v reflect.Value) {
		switch v.Kind() {
		case reflect.Struct:
			for i := range v.NumField() {
				visit(v.Field(i))
			}
		case reflect.Slice:
			for i := range v.Len() {
				visit(v.Index(i))
			}
			places = append(places, v)
		case reflect.Int:
			places = append(places, v)
		}
	}
	visit(reflect.ValueOf(target).Elem())
	v := places[x.IntN(len(places))]
	if v.Kind() == reflect.Int {
		list := []int{-2, -1, 0, 1, 2, 3, 4, 5, 8, 9, 100, 101, api.MaxParameter, api.MaxParameter + 1, minInt, maxInt}
		v.SetInt(int64(list[x.IntN(len(list))]))
		return
	}
	longer := reflect.Append(copyOf(v), reflect.Zero(v.Type().Elem()))
	v.Set([]reflect.Value{reflect.Zero(v.Type()), copyOf(v.Slice(0, v.Len()/2)), longer}[x.IntN(3)])
}
