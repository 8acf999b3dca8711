package tree

import (
	"math/rand/v2"
	"reflect"
	"slices"
	"strconv"
	"testing"

	"familycheck/api"
	"familycheck/protocol"
)

// source makes automata and families that are small enough for plain searches.
type source struct{ *rand.Rand }

func newSource(seed uint64) source { return source{rand.New(rand.NewPCG(seed, 7))} }

func (x source) between(low, high int) int { return low + x.IntN(high-low+1) }

// set returns a set of indexes below count, most often an empty one.
func (x source) set(count int) []int {
	if x.IntN(3) > 0 {
		return nil
	}
	return x.someSet(count)
}

func (x source) someSet(count int) []int {
	list := []int{x.IntN(count)}
	for i := range count {
		if x.IntN(2) == 0 && i != list[0] {
			list = append(list, i)
		}
	}
	slices.Sort(list)
	return list
}

// list returns numbers below count, in any order and some of them twice.
func (x source) list(count int) []int {
	var all []int
	for range x.IntN(3) {
		if count > 0 {
			all = append(all, x.IntN(count))
		}
	}
	return all
}

// tree returns a tree with so many inner nodes.
func (x source) tree(letters, inner int) plainTree {
	if inner == 0 {
		return plainTree{x.IntN(letters), nil}
	}
	first := x.IntN(inner)
	return plainTree{x.IntN(letters), []plainTree{x.tree(letters, first), x.tree(letters, inner-1-first)}}
}

func (x source) automaton(letters, states int) api.TreeAutomaton {
	a := api.TreeAutomaton{Letters: letters, States: x.between(0, states)}
	if a.States == 0 {
		return a
	}
	a.Accept = x.list(a.States)
	for range x.IntN(2*letters + 1) {
		a.Leaves = append(a.Leaves, api.Leaf{Letter: x.IntN(letters), To: x.IntN(a.States)})
	}
	for range x.IntN(2*letters*a.States*a.States + 1) {
		a.Branches = append(a.Branches, api.Branch{Letter: x.IntN(letters), First: x.IntN(a.States), Second: x.IntN(a.States), To: x.IntN(a.States)})
	}
	return a
}

// complete returns a complete deterministic automaton.
func (x source) complete(letters, states int) api.TreeAutomaton {
	a := api.TreeAutomaton{Letters: letters, States: x.between(1, states)}
	a.Accept = x.someSet(a.States)
	for letter := range letters {
		a.Leaves = append(a.Leaves, api.Leaf{Letter: letter, To: x.IntN(a.States)})
		for i := range a.States {
			for j := range a.States {
				a.Branches = append(a.Branches, api.Branch{Letter: letter, First: i, Second: j, To: x.IntN(a.States)})
			}
		}
	}
	return a
}

func names(letter string, count int) []string {
	var list []string
	for i := range count {
		list = append(list, letter+strconv.Itoa(i))
	}
	return list
}

// family returns a tree family with so many states and rules at most.
func (x source) family(t testing.TB, states, rules int) api.Protocol {
	t.Helper()
	p := api.Protocol{Name: "p", Topology: api.Tree, States: names("s", x.between(1, states))}
	p.Initial, p.Leader = x.someSet(len(p.States)), x.set(len(p.States))
	for i := range x.between(0, rules) {
		r := x.rule(p)
		r.Name = "r" + strconv.Itoa(i)
		p.Rules = append(p.Rules, r)
	}
	if e := protocol.Validate(p); e != api.OK {
		t.Fatalf("error %d: %+v", e, p)
	}
	return p
}

func (x source) rule(p api.Protocol) api.Rule {
	states := len(p.States)
	r := api.Rule{Kind: x.between(api.Neighbor, api.Pass), From: x.IntN(states), To: x.IntN(states), Read: -1, Write: -1}
	if r.Kind == api.Pass {
		r.PartnerFrom, r.PartnerTo, r.Direction = x.IntN(states), x.IntN(states), x.between(api.ToChild, api.ToParent)
		return r
	}
	r.Left, r.Right, r.Parent = x.set(states), x.set(states), x.set(states)
	r.At = max(api.AtAny, x.between(-2, api.AtLast))
	return r
}

func (x source) property(t testing.TB, p api.Protocol) api.Property {
	t.Helper()
	q := api.Property{Name: "q", Kind: api.Never}
	for _, i := range p.Initial {
		if x.IntN(3) == 0 {
			q.Start = append(q.Start, i)
		}
	}
	for range x.between(1, 3) {
		q.Bad = append(q.Bad, api.Count{States: x.someSet(len(p.States)), Least: x.between(1, 3)})
	}
	if x.IntN(2) == 0 {
		q.Adjacent = ints(x.IntN(len(p.States)), x.IntN(len(p.States)))
		q.Bad = q.Bad[:x.IntN(len(q.Bad)+1)]
	}
	if e := protocol.ValidateProperty(p, q); e != api.OK {
		t.Fatalf("error %d: %+v", e, q)
	}
	return q
}

// disturb changes a number or a list somewhere in *target.
func (x source) disturb(target any) {
	var places []reflect.Value
	var visit func(v reflect.Value)
	visit = func(v reflect.Value) {
		switch v.Kind() {
		case reflect.Struct:
			for i := range v.NumField() {
				visit(v.Field(i))
			}
		case reflect.Slice:
			for i := range v.Len() {
				visit(v.Index(i))
			}
			places = append(places, v)
		case reflect.Int:
			places = append(places, v)
		}
	}
	visit(reflect.ValueOf(target).Elem())
	v := places[x.IntN(len(places))]
	if v.Kind() == reflect.Int {
		list := []int{-2, -1, 0, 1, 2, 3, 4, 5, 8, 9, 64, 65, 100, 101, 400, 401, api.MaxParameter, minInt, maxInt}
		v.SetInt(int64(list[x.IntN(len(list))]))
		return
	}
	longer := reflect.Append(copyOf(v), reflect.Zero(v.Type().Elem()))
	v.Set([]reflect.Value{reflect.Zero(v.Type()), copyOf(v.Slice(0, v.Len()/2)), longer}[x.IntN(3)])
}
