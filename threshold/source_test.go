package threshold

import (
	"math/rand/v2"
	"reflect"
	"slices"
	"strconv"
	"testing"

	"familycheck/api"
	"familycheck/protocol"
	"familycheck/unfold"
)

// source makes threshold families that are small enough for plain searches and whose guards hold in some runs only.
type source struct{ *rand.Rand }

func newSource(seed uint64) source { return source{rand.New(rand.NewPCG(seed, 4))} }

func (x source) between(low, high int) int { return low + x.IntN(high-low+1) }

// set returns a set of indexes below count, most often an empty one.
func (x source) set(count int) []int {
	if x.IntN(3) > 0 {
		return nil
	}
	return x.someSet(count)
}

func (x source) someSet(count int) []int {
	list := []int{x.IntN(count)}
	for i := range count {
		if x.IntN(2) == 0 && i != list[0] {
			list = append(list, i)
		}
	}
	slices.Sort(list)
	return list
}

func names(letter string, count int) []string {
	var list []string
	for i := range count {
		list = append(list, letter+strconv.Itoa(i))
	}
	return list
}

func (x source) family(t testing.TB) api.Protocol {
	t.Helper()
	p := api.Protocol{Name: "p", Topology: api.Clique, States: names("s", x.between(2, 4)), Messages: names("m", x.between(0, 2))}
	p.Fault = x.between(api.NoFault, api.Arbitrary)
	p.Resilience = [][]api.Linear{nil, {{T: 1, F: -1}}, {{N: 1, T: -2, C: -1}, {T: 1, F: -1}}, {{N: 1, F: -1, C: -1}}}[x.IntN(4)]
	p.Initial = x.someSet(len(p.States))
	var guards []api.Threshold
	for range min(len(p.Messages), 1) * x.between(0, 3) {
		bound := api.Linear{C: x.between(-1, 2), N: x.between(0, 1), T: x.between(-1, 1), F: x.between(-1, 1)}
		guards = append(guards, api.Threshold{Message: x.IntN(len(p.Messages)), Coef: x.between(1, 3), Bound: bound})
	}
	for i := range x.between(0, 4) {
		r := api.Rule{Name: "r" + strconv.Itoa(i), Kind: api.Local, Read: -1, Write: -1}
		r.From = x.IntN(len(p.States) - 1)
		r.To = x.between(r.From+1, len(p.States)-1)
		if len(p.Messages) > 0 {
			r.Send = x.set(len(p.Messages))
		}
		for range min(len(guards), 1) * x.IntN(3) {
			r.Guards = append(r.Guards, guards[x.IntN(len(guards))])
		}
		p.Rules = append(p.Rules, r)
	}
	if e := protocol.Validate(p); e != api.OK {
		t.Fatalf("error %d: %+v", e, p)
	}
	return p
}

// property returns a threshold property of p.
func (x source) property(t testing.TB, p api.Protocol, kind int) api.Property {
	t.Helper()
	q := api.Property{Name: "q", Kind: kind}
	for _, i := range p.Initial {
		if x.IntN(3) == 0 {
			q.Start = append(q.Start, i)
		}
	}
	if kind == api.Never {
		for range x.between(1, 2) {
			q.Bad = append(q.Bad, api.Count{States: x.someSet(len(p.States)), Least: x.between(1, 3)})
		}
	} else {
		goal := x.someSet(len(p.States))
		for state := range p.States { // every rule leads to a later state
			for _, r := range p.Rules {
				if r.From == state && slices.Contains(goal, state) && !slices.Contains(goal, r.To) {
					goal = append(goal, r.To)
				}
			}
		}
		slices.Sort(goal)
		q.Goal = goal
	}
	if e := Check(p, q); e != api.OK && e != api.ErrLarge {
		t.Fatalf("error %d: %+v %+v", e, p, q)
	}
	return q
}

// size returns an admissible size with at most so many processes; false if it finds none.
func (x source) size(p api.Protocol, most int) (api.Size, bool) {
	list, _ := protocol.Sizes(p, x.between(1, most))
	if len(list) == 0 {
		return api.Size{}, false
	}
	return list[x.IntN(len(list))], true
}

// config returns a valid configuration.
func (x source) config(p api.Protocol, s api.Size) api.Config {
	c := api.Config{Correct: s.N - s.F}
	for range unfold.Modeled(p, s) {
		c.States = append(c.States, x.IntN(len(p.States)))
	}
	for range p.Messages {
		faulty := 0
		if p.Fault == api.Crash || p.Fault == api.Omission {
			faulty = x.IntN(3)
		}
		c.Sent = append(c.Sent, x.IntN(4))
		c.Faulty = append(c.Faulty, faulty)
	}
	return c
}

// run returns a run from an initial configuration that mostly goes on as far as it can.
func (x source) run(t testing.TB, p api.Protocol, q api.Property, s api.Size) api.Run {
	t.Helper()
	starts, _ := protocol.Starts(p, q)
	c := api.Config{Correct: s.N - s.F, Sent: make([]int, len(p.Messages)), Faulty: make([]int, len(p.Messages))}
	for process := range unfold.Modeled(p, s) {
		states := starts
		if process >= c.Correct {
			states = p.Initial
		}
		c.States = append(c.States, states[x.IntN(len(states))])
	}
	r := api.Run{Start: c}
	for x.IntN(12) > 0 {
		steps, e := unfold.Steps(p, s, c)
		if e != api.OK {
			t.Fatalf("error %d: %+v", e, p)
		}
		if len(steps) == 0 {
			break
		}
		r.Steps = append(r.Steps, steps[x.IntN(len(steps))])
		c, _ = unfold.Apply(p, s, c, r.Steps[len(r.Steps)-1])
	}
	return r
}

// schema returns a schema, or now and then a list that is none.
func (x source) schema(thresholds int) []int {
	list := x.Perm(thresholds)
	list = list[:x.IntN(thresholds+1)]
	if x.IntN(8) == 0 {
		list = append(list, x.between(-1, thresholds))
	}
	return list
}

// disturb changes a number or a list somewhere in *target.
func (x source) disturb(target any) {
	var places []reflect.Value
	var visit func(v reflect.Value)
	visit = func(v reflect.Value) {
		switch v.Kind() {
		case reflect.Struct:
			for i := range v.NumField() {
				visit(v.Field(i))
			}
		case reflect.Slice:
			for i := range v.Len() {
				visit(v.Index(i))
			}
			places = append(places, v)
		case reflect.Int:
			places = append(places, v)
		}
	}
	visit(reflect.ValueOf(target).Elem())
	v := places[x.IntN(len(places))]
	if v.Kind() == reflect.Int {
		list := []int{-2, -1, 0, 1, 2, 3, 4, 5, 8, 9, api.MaxParameter, api.MaxParameter + 1, minInt, maxInt}
		v.SetInt(int64(list[x.IntN(len(list))]))
		return
	}
	longer := reflect.Append(copyOf(v), reflect.Zero(v.Type().Elem()))
	v.Set([]reflect.Value{reflect.Zero(v.Type()), copyOf(v.Slice(0, v.Len()/2)), longer}[x.IntN(3)])
}
