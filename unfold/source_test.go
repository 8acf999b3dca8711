package unfold

import (
	"math/rand/v2"
	"reflect"
	"slices"
	"strconv"
	"testing"

	"familycheck/api"
	"familycheck/protocol"
)

// source makes families that are small enough for plain searches and whose rules are often enabled.
type source struct{ *rand.Rand }

func newSource(seed uint64) source { return source{rand.New(rand.NewPCG(seed, 3))} }

func (x source) between(low, high int) int { return low + x.IntN(high-low+1) }

// set returns a set of indexes below count, most often an empty one.
func (x source) set(count int) []int {
	if x.IntN(3) > 0 {
		return nil
	}
	return x.someSet(count)
}

func (x source) someSet(count int) []int {
	list := []int{x.IntN(count)}
	for i := range count {
		if x.IntN(2) == 0 && i != list[0] {
			list = append(list, i)
		}
	}
	slices.Sort(list)
	return list
}

func names(letter string, count int) []string {
	var list []string
	for i := range count {
		list = append(list, letter+strconv.Itoa(i))
	}
	return list
}

func (x source) family(t testing.TB) api.Protocol {
	t.Helper()
	p := api.Protocol{Name: "p", Topology: max(api.Clique, x.between(-1, api.Tree)), States: names("s", x.between(2, 4))}
	if p.Topology == api.Clique {
		p.Messages, p.Values = names("m", x.between(0, 2)), names("v", x.between(0, 2))
		p.Fault = x.between(api.NoFault, api.Arbitrary)
		p.Resilience = [][]api.Linear{nil, {{T: 1, F: -1}}, {{C: 1, T: 1, F: -1}}, {{N: 1, T: -2, C: -1}}}[x.IntN(4)]
	} else {
		p.Leader = x.set(len(p.States))
	}
	p.Initial = x.someSet(len(p.States))
	guards := make([]api.Threshold, 2)
	for i := range guards {
		guards[i] = api.Threshold{Message: x.IntN(max(1, len(p.Messages))), Coef: x.between(1, 2)}
		guards[i].Bound = api.Linear{C: x.between(-1, 2), N: x.between(0, 1), T: x.between(-1, 1), F: x.between(-1, 1)}
	}
	for i := range x.between(1, 4) {
		r := x.rule(p, guards)
		r.Name = "r" + strconv.Itoa(i)
		p.Rules = append(p.Rules, r)
	}
	if e := protocol.Validate(p); e != api.OK {
		t.Fatalf("error %d: %+v", e, p)
	}
	return p
}

func (x source) rule(p api.Protocol, guards []api.Threshold) api.Rule {
	states := len(p.States)
	r := api.Rule{From: x.IntN(states), To: x.IntN(states), Read: -1, Write: -1}
	if p.Topology == api.Clique {
		r.Kind = max(api.Local, x.between(-1, api.Broadcast))
		r.Read, r.Write = x.between(-1, len(p.Values)-1), x.between(-1, len(p.Values)-1)
	} else {
		r.Kind = x.between(api.Neighbor, api.Pass)
	}
	switch r.Kind {
	case api.Local:
		r.Exists, r.Forall = x.set(states), x.set(states)
		if len(p.Messages) > 0 {
			r.Send = x.set(len(p.Messages))
			r.Guards = slices.Clone(guards[:x.IntN(3)])
		}
	case api.Broadcast:
		for range states {
			r.Response = append(r.Response, x.IntN(states))
		}
	case api.Neighbor:
		r.Left, r.Right = x.set(states), x.set(states)
		if p.Topology != api.Ring {
			r.At = max(api.AtAny, x.between(-2, api.AtLast))
		}
		if p.Topology == api.Tree {
			r.Parent = x.set(states)
		}
	case api.Pass:
		r.Direction = x.between(api.ToRight, api.ToLeft)
		if p.Topology == api.Tree {
			r.Direction = x.between(api.ToChild, api.ToParent)
		}
	}
	if r.Kind == api.Pair || r.Kind == api.Pass {
		r.PartnerFrom, r.PartnerTo = x.IntN(states), x.IntN(states)
	}
	return r
}

func (x source) property(t testing.TB, p api.Protocol, kind int) api.Property {
	t.Helper()
	q := api.Property{Name: "q", Kind: kind}
	for _, i := range p.Initial {
		if x.IntN(3) == 0 {
			q.Start = append(q.Start, i)
		}
	}
	if kind == api.Eventually {
		q.Goal = x.someSet(len(p.States))
	} else {
		for range x.between(1, 2) {
			q.Bad = append(q.Bad, api.Count{States: x.someSet(len(p.States)), Least: x.between(1, 3)})
		}
		if p.Topology != api.Clique && x.IntN(2) == 0 {
			q.Adjacent = []int{x.IntN(len(p.States)), x.IntN(len(p.States))}
			q.Bad = q.Bad[:x.IntN(len(q.Bad)+1)]
		}
	}
	if e := protocol.ValidateProperty(p, q); e != api.OK {
		t.Fatalf("error %d: %+v", e, q)
	}
	return q
}

// size returns an admissible size with at most so many processes; false if it finds none.
func (x source) size(p api.Protocol, most int) (api.Size, bool) {
	list := plainSizes(p, x.between(1, most))
	if len(list) == 0 {
		return api.Size{}, false
	}
	return list[x.IntN(len(list))], true
}

// config returns a valid configuration.
func (x source) config(p api.Protocol, s api.Size) api.Config {
	c := api.Config{Correct: s.N - s.F, Value: x.IntN(max(1, len(p.Values)))}
	for range plainModeled(p, s) {
		c.States = append(c.States, x.IntN(len(p.States)))
	}
	for range p.Messages {
		c.Sent = append(c.Sent, x.IntN(4))
		faulty := 0
		if p.Fault == api.Crash || p.Fault == api.Omission {
			faulty = x.IntN(3)
		}
		c.Faulty = append(c.Faulty, faulty)
	}
	if p.Topology == api.Tree {
		shapes := plainShapes(s.N)
		c.Shape = shapes[x.IntN(len(shapes))]
	}
	return c
}

// disturb changes a number or a list somewhere in *target.
func (x source) disturb(target any) {
	var places []reflect.Value
	var visit func(v reflect.Value)
	visit = func(v reflect.Value) {
		switch v.Kind() {
		case reflect.Struct:
			for i := range v.NumField() {
				visit(v.Field(i))
			}
		case reflect.Slice:
			for i := range v.Len() {
				visit(v.Index(i))
			}
			places = append(places, v)
		case reflect.Int:
			places = append(places, v)
		}
	}
	visit(reflect.ValueOf(target).Elem())
	v := places[x.IntN(len(places))]
	if v.Kind() == reflect.Int {
		list := []int{-2, -1, 0, 1, 2, 3, 4, 5, 8, 9, api.MaxParameter, api.MaxParameter + 1, minInt, maxInt}
		v.SetInt(int64(list[x.IntN(len(list))]))
		return
	}
	longer := reflect.Append(copyOf(v), reflect.Zero(v.Type().Elem()))
	v.Set([]reflect.Value{reflect.Zero(v.Type()), copyOf(v.Slice(0, v.Len()/2)), longer}[x.IntN(3)])
}
