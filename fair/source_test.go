package fair

import (
	"math/rand/v2"
	"reflect"
	"slices"
	"strconv"
	"testing"

	"familycheck/api"
	"familycheck/protocol"
)

// source makes families that are small enough for plain searches and whose rules are often enabled.
type source struct{ *rand.Rand }

func newSource(seed uint64) source { return source{rand.New(rand.NewPCG(seed, 9))} }

func (x source) between(low, high int) int { return low + x.IntN(high-low+1) }

// set returns a set of indexes below count, most often an empty one.
func (x source) set(count int) []int {
	if x.IntN(3) > 0 {
		return nil
	}
	return x.someSet(count)
}

func (x source) someSet(count int) []int {
	list := []int{x.IntN(count)}
	for i := range count {
		if x.IntN(2) == 0 && i != list[0] {
			list = append(list, i)
		}
	}
	slices.Sort(list)
	return list
}

func names(letter string, count int) []string {
	var list []string
	for i := range count {
		list = append(list, letter+strconv.Itoa(i))
	}
	return list
}

// family returns a monadic family with so many states and rules at most. In half of them most rules lead to later states.
func (x source) family(t testing.TB, states, rules int) api.Protocol {
	t.Helper()
	p := api.Protocol{Name: "p", Topology: api.Clique, States: names("s", x.between(1, states)), Values: names("v", x.between(0, 2))}
	p.Initial = x.someSet(len(p.States))
	downward := x.IntN(2) == 0
	for i := range x.between(0, rules) {
		r := x.rule(p)
		if downward && x.IntN(8) > 0 {
			r.From, r.To = min(r.From, r.To), max(r.From, r.To)
			r.PartnerFrom, r.PartnerTo = min(r.PartnerFrom, r.PartnerTo), max(r.PartnerFrom, r.PartnerTo)
			for state, to := range r.Response {
				r.Response[state] = max(state, to)
			}
		}
		r.Name = "r" + strconv.Itoa(i)
		p.Rules = append(p.Rules, r)
	}
	if e := protocol.Validate(p); e != api.OK {
		t.Fatalf("error %d: %+v", e, p)
	}
	return p
}

func (x source) rule(p api.Protocol) api.Rule {
	states := len(p.States)
	r := api.Rule{Kind: x.between(api.Local, api.Broadcast), From: x.IntN(states), To: x.IntN(states), Read: -1, Write: -1}
	if x.IntN(2) == 0 {
		r.Read, r.Write = x.between(-1, len(p.Values)-1), x.between(-1, len(p.Values)-1)
	}
	switch r.Kind {
	case api.Local:
		r.Exists, r.Forall = x.set(states), x.set(states)
	case api.Pair:
		r.PartnerFrom, r.PartnerTo = x.IntN(states), x.IntN(states)
	case api.Broadcast:
		for range states {
			r.Response = append(r.Response, x.IntN(states))
		}
	}
	return r
}

// property returns a property of the kind, with at most three counts.
func (x source) property(t testing.TB, p api.Protocol, kind int) api.Property {
	t.Helper()
	q := api.Property{Name: "q", Kind: kind}
	for _, i := range p.Initial {
		if x.IntN(3) == 0 {
			q.Start = append(q.Start, i)
		}
	}
	if kind == api.Eventually {
		q.Goal = x.someSet(len(p.States))
	} else {
		for range x.between(1, 3) {
			q.Bad = append(q.Bad, api.Count{States: x.someSet(len(p.States)), Least: x.between(1, 3)})
		}
	}
	if e := protocol.ValidateProperty(p, q); e != api.OK {
		t.Fatalf("error %d: %+v", e, q)
	}
	return q
}

// descending returns a family with so many states at most, an Eventually property and weights, which are often accepted: few rules raise them, and most processes outside of the goal have a rule that lowers them.
func (x source) descending(t testing.TB, states int) (api.Protocol, api.Property, []int) {
	t.Helper()
	p := x.family(t, states, 0)
	weights := x.weights(p, 3)
	weights[x.IntN(len(weights))] = 0
	q := api.Property{Name: "q", Kind: api.Eventually}
	for state, weight := range weights {
		if weight == 0 {
			q.Goal = append(q.Goal, state)
			continue
		}
		if x.IntN(5) > 0 {
			p.Rules = append(p.Rules, x.lowering(p, weights, state))
		}
	}
	for range x.between(0, 3) {
		r := x.rule(p)
		if !plainRaising(r, weights) || x.IntN(10) == 0 {
			p.Rules = append(p.Rules, r)
		}
	}
	x.Shuffle(len(p.Rules), func(i, k int) { p.Rules[i], p.Rules[k] = p.Rules[k], p.Rules[i] })
	for i := range p.Rules {
		p.Rules[i].Name = "r" + strconv.Itoa(i)
	}
	if e := protocol.ValidateProperty(p, q); e != api.OK {
		t.Fatalf("error %d: %+v", e, p)
	}
	return p, q, weights
}

// lowering returns a rule that brings processes from the state to one with a smaller weight.
func (x source) lowering(p api.Protocol, weights []int, state int) api.Rule {
	for {
		r := x.rule(p)
		r.From = state
		if x.IntN(3) > 0 {
			r = api.Rule{Kind: api.Local, From: state, To: r.To, Read: -1, Write: r.Write}
		}
		if plainLowering(r, weights) && r.From != r.To {
			return r
		}
	}
}

// element returns an element with from 1 to most processes.
func (x source) element(p api.Protocol, most int) api.Element {
	e := api.Element{Value: x.IntN(plainValues(p)), Counts: make([]int, len(p.States))}
	for range x.between(1, most) {
		e.Counts[x.IntN(len(p.States))]++
	}
	return e
}

func (x source) weights(p api.Protocol, most int) []int {
	var list []int
	for range p.States {
		list = append(list, x.between(0, most))
	}
	return list
}

// disturb changes a number or a list somewhere in *target.
func (x source) disturb(target any) {
	var places []reflect.Value
	var visit func(v reflect.Value)
	visit = func(v reflect.Value) {
		switch v.Kind() {
		case reflect.Struct:
			for i := range v.NumField() {
				visit(v.Field(i))
			}
		case reflect.Slice:
			for i := range v.Len() {
				visit(v.Index(i))
			}
			places = append(places, v)
		case reflect.Int:
			places = append(places, v)
		}
	}
	visit(reflect.ValueOf(target).Elem())
	v := places[x.IntN(len(places))]
	if v.Kind() == reflect.Int {
		list := []int{-2, -1, 0, 1, 2, 3, 4, 5, 6, 7, 100, 101, api.MaxParameter, api.MaxParameter + 1, minInt, maxInt}
		v.SetInt(int64(list[x.IntN(len(list))]))
		return
	}
	longer := reflect.Append(copyOf(v), reflect.Zero(v.Type().Elem()))
	v.Set([]reflect.Value{reflect.Zero(v.Type()), copyOf(v.Slice(0, v.Len()/2)), longer}[x.IntN(3)])
}
