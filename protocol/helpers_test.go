package protocol

import (
	"math/rand/v2"
	"reflect"
	"slices"
	"strings"
	"testing"

	"familycheck/api"
)

const (
	minInt = -1 << 63
	maxInt = 1<<63 - 1
)

// The families of the document's examples.

const stText = `protocol st
topology clique
states v0 v1 se ac
messages echo
faults arbitrary
resilience n-3*t-1
resilience t-f
initial v0 v1
rule r1 local v1 se send echo
rule r2 local v0 se when 1*echo >= t+1 send echo
rule r3 local se ac when 1*echo >= n-t
`

func st() api.Protocol {
	low := api.Threshold{Message: 0, Coef: 1, Bound: api.Linear{C: 1, T: 1}}
	high := api.Threshold{Message: 0, Coef: 1, Bound: api.Linear{N: 1, T: -1}}
	return api.Protocol{
		Name: "st", Topology: api.Clique, States: []string{"v0", "v1", "se", "ac"}, Messages: []string{"echo"}, Fault: api.Arbitrary,
		Resilience: []api.Linear{{C: -1, N: 1, T: -3}, {T: 1, F: -1}}, Initial: []int{0, 1},
		Rules: []api.Rule{
			{Name: "r1", Kind: api.Local, From: 1, To: 2, Read: -1, Write: -1, Send: []int{0}},
			{Name: "r2", Kind: api.Local, From: 0, To: 2, Read: -1, Write: -1, Guards: []api.Threshold{low}, Send: []int{0}},
			{Name: "r3", Kind: api.Local, From: 2, To: 3, Read: -1, Write: -1, Guards: []api.Threshold{high}},
		},
	}
}

const mxText = `protocol mx
topology clique
states i w c
values free held
initial i
rule r1 local i w
rule r2 local w c read free write held
rule r3 local c i read held write free
`

func mx() api.Protocol {
	return api.Protocol{
		Name: "mx", Topology: api.Clique, States: []string{"i", "w", "c"}, Values: []string{"free", "held"}, Initial: []int{0},
		Rules: []api.Rule{
			{Name: "r1", Kind: api.Local, From: 0, To: 1, Read: -1, Write: -1},
			{Name: "r2", Kind: api.Local, From: 1, To: 2, Read: 0, Write: 1},
			{Name: "r3", Kind: api.Local, From: 2, To: 0, Read: 1, Write: 0},
		},
	}
}

const tokText = `protocol tok
topology ring
states tk no
initial no
leader tk
rule go pass tk no no tk right
`

func tok() api.Protocol {
	return api.Protocol{
		Name: "tok", Topology: api.Ring, States: []string{"tk", "no"}, Initial: []int{1}, Leader: []int{0},
		Rules: []api.Rule{{Name: "go", Kind: api.Pass, From: 0, To: 1, PartnerFrom: 1, PartnerTo: 0, Read: -1, Write: -1, Direction: api.ToRight}},
	}
}

// Families with all that their topologies allow.

const fullText = `protocol full
topology clique
states a b c d
messages m0 m1 m2
values x y
faults crash
resilience n-2*t-1
resilience t-f
initial a c
rule loc local a b when 2*m1 >= 3*n-t when 1*m0 >= 0 exists b d forall a b c read y write x send m0 m2
rule two pair c d a b read x write y
rule cast broadcast d a all a a b d read y write y
rule bare local d c
`

func full() api.Protocol {
	return api.Protocol{
		Name: "full", Topology: api.Clique, States: []string{"a", "b", "c", "d"}, Messages: []string{"m0", "m1", "m2"}, Values: []string{"x", "y"}, Fault: api.Crash,
		Resilience: []api.Linear{{C: -1, N: 1, T: -2}, {T: 1, F: -1}}, Initial: []int{0, 2},
		Rules: []api.Rule{
			{Name: "loc", Kind: api.Local, From: 0, To: 1, Guards: []api.Threshold{{Message: 1, Coef: 2, Bound: api.Linear{N: 3, T: -1}}, {Coef: 1}}, Exists: []int{1, 3}, Forall: []int{0, 1, 2}, Read: 1, Write: 0, Send: []int{0, 2}},
			{Name: "two", Kind: api.Pair, From: 2, To: 3, PartnerFrom: 0, PartnerTo: 1, Read: 0, Write: 1},
			{Name: "cast", Kind: api.Broadcast, From: 3, To: 0, Response: []int{0, 0, 1, 3}, Read: 1, Write: 1},
			{Name: "bare", Kind: api.Local, From: 3, To: 2, Read: -1, Write: -1},
		},
	}
}

const rowText = `protocol row
topology line
states a b c
initial a b
leader b c
rule r1 neighbor a b at first right a c
rule r2 neighbor b c at last left a b c
rule r3 neighbor c c
rule r4 pass a b c a left
rule r5 pass b b b b right
`

func row() api.Protocol {
	return api.Protocol{
		Name: "row", Topology: api.Line, States: []string{"a", "b", "c"}, Initial: []int{0, 1}, Leader: []int{1, 2},
		Rules: []api.Rule{
			{Name: "r1", Kind: api.Neighbor, From: 0, To: 1, Read: -1, Write: -1, At: api.AtFirst, Right: []int{0, 2}},
			{Name: "r2", Kind: api.Neighbor, From: 1, To: 2, Read: -1, Write: -1, At: api.AtLast, Left: []int{0, 1, 2}},
			{Name: "r3", Kind: api.Neighbor, From: 2, To: 2, Read: -1, Write: -1},
			{Name: "r4", Kind: api.Pass, From: 0, To: 1, PartnerFrom: 2, PartnerTo: 0, Read: -1, Write: -1, Direction: api.ToLeft},
			{Name: "r5", Kind: api.Pass, From: 1, To: 1, PartnerFrom: 1, PartnerTo: 1, Read: -1, Write: -1, Direction: api.ToRight},
		},
	}
}

const oakText = `protocol oak
topology tree
states a b
initial a
leader b
rule r1 neighbor a b at last left a b right b parent a
rule r2 neighbor b a at first parent a b
rule r3 pass a b b a parent
rule r4 pass b a a b child
`

func oak() api.Protocol {
	return api.Protocol{
		Name: "oak", Topology: api.Tree, States: []string{"a", "b"}, Initial: []int{0}, Leader: []int{1},
		Rules: []api.Rule{
			{Name: "r1", Kind: api.Neighbor, From: 0, To: 1, Read: -1, Write: -1, At: api.AtLast, Left: []int{0, 1}, Right: []int{1}, Parent: []int{0}},
			{Name: "r2", Kind: api.Neighbor, From: 1, To: 0, Read: -1, Write: -1, At: api.AtFirst, Parent: []int{0, 1}},
			{Name: "r3", Kind: api.Pass, From: 0, To: 1, PartnerFrom: 1, PartnerTo: 0, Read: -1, Write: -1, Direction: api.ToParent},
			{Name: "r4", Kind: api.Pass, From: 1, To: 0, PartnerFrom: 0, PartnerTo: 1, Read: -1, Write: -1, Direction: api.ToChild},
		},
	}
}

// samples are families with their texts.
func samples() map[string]api.Protocol {
	return map[string]api.Protocol{stText: st(), mxText: mx(), tokText: tok(), fullText: full(), rowText: row(), oakText: oak()}
}

// invalid returns families with an error each.
func invalid() map[api.Errno]api.Protocol {
	name, arg, large, state, rule := st(), st(), st(), st(), st()
	name.Name = ""
	arg.Topology = 0
	large.Resilience[0].N = 101
	state.Initial = []int{4}
	rule.Rules[0].Kind = 0
	return map[api.Errno]api.Protocol{api.ErrName: name, api.ErrArg: arg, api.ErrLarge: large, api.ErrState: state, api.ErrRule: rule}
}

// never returns a property of any family that has a state 0.
func never() api.Property {
	return api.Property{Name: "q", Kind: api.Never, Bad: []api.Count{{States: []int{0}, Least: 1}}}
}

// same is equality in which a nil slice and an empty one are equal. It goes by the fields as they are declared, because Equal is held against it.
func same(a, b any) bool {
	return sameValue(reflect.ValueOf(a), reflect.ValueOf(b))
}

func sameValue(a, b reflect.Value) bool {
	switch a.Kind() {
	case reflect.Slice:
		if a.Len() != b.Len() {
			return false
		}
		for i := range a.Len() {
			if !sameValue(a.Index(i), b.Index(i)) {
				return false
			}
		}
		return true
	case reflect.Struct:
		for i := range a.NumField() {
			if !sameValue(a.Field(i), b.Field(i)) {
				return false
			}
		}
		return true
	}
	return a.Interface() == b.Interface()
}

// isZero reports whether x is a zero value, where a slice may also be empty.
func isZero(x any) bool {
	return same(x, reflect.Zero(reflect.TypeOf(x)).Interface())
}

// deepCopy returns a copy that shares no slice with x.
func deepCopy[T any](x T) T {
	return copyValue(reflect.ValueOf(x)).Interface().(T)
}

func copyValue(v reflect.Value) reflect.Value {
	c := reflect.New(v.Type()).Elem()
	switch {
	case v.Kind() == reflect.Slice && !v.IsNil():
		c.Set(reflect.MakeSlice(v.Type(), v.Len(), v.Len()))
		for i := range v.Len() {
			c.Index(i).Set(copyValue(v.Index(i)))
		}
	case v.Kind() == reflect.Struct:
		for i := range v.NumField() {
			c.Field(i).Set(copyValue(v.Field(i)))
		}
	default:
		c.Set(v)
	}
	return c
}

// A region is the memory behind a slice, up to its capacity.
type region struct{ first, end uintptr }

func regions(v reflect.Value) []region {
	var all []region
	switch v.Kind() {
	case reflect.Slice:
		if v.Cap() > 0 {
			all = append(all, region{v.Pointer(), v.Pointer() + uintptr(v.Cap())*v.Type().Elem().Size()})
		}
		for i := range v.Len() {
			all = append(all, regions(v.Index(i))...)
		}
	case reflect.Struct:
		for i := range v.NumField() {
			all = append(all, regions(v.Field(i))...)
		}
	}
	return all
}

// apart reports whether no two slices of all the values share memory.
func apart(values ...any) bool {
	var all []region
	for _, x := range values {
		all = append(all, regions(reflect.ValueOf(x))...)
	}
	slices.SortFunc(all, func(a, b region) int { return int(a.first) - int(b.first) })
	for i := 1; i < len(all); i++ {
		if all[i].first < all[i-1].end {
			return false
		}
	}
	return true
}

// A source makes values that look random and are the same in every run.
type source struct{ *rand.Rand }

func newSource(seed uint64) source { return source{rand.New(rand.NewPCG(seed, 2))} }

func (x source) between(low, high int) int { return low + x.IntN(high-low+1) }

// set returns a set of indexes below count.
func (x source) set(count int) []int {
	var list []int
	for i := range count {
		if x.IntN(2) == 0 {
			list = append(list, i)
		}
	}
	return list
}

func (x source) someSet(count int) []int {
	if list := x.set(count); len(list) > 0 {
		return list
	}
	return []int{x.IntN(count)}
}

func (x source) linear() api.Linear {
	most := []int{1, 3, api.MaxFactor}[x.IntN(3)]
	number := func() int { return x.between(-most, most) }
	return api.Linear{C: number(), N: number(), T: number(), F: number()}
}

// family returns a valid family.
func (x source) family() api.Protocol {
	names := []string{"a", "b", "n", "t", "f", "s0", "s_1", "rules", "statesx", "abcdefghijkl", "z9", "q__", "x0", "lines"}
	x.Shuffle(len(names), func(i, k int) { names[i], names[k] = names[k], names[i] })
	take := func(low, high int) []string {
		count := x.between(low, high)
		taken := names[:count:count]
		names = names[count:]
		return taken
	}
	p := api.Protocol{Name: "a", Topology: x.between(api.Clique, api.Tree)}
	if x.IntN(2) == 0 {
		p.Topology = api.Clique
	}
	p.States = take(1, api.MaxStates)
	if p.Topology == api.Clique {
		p.Messages = take(0, api.MaxMessages)
		p.Values = take(0, api.MaxValues)
		p.Fault = x.between(api.NoFault, api.Arbitrary)
		for range x.IntN(api.MaxConditions + 1) {
			p.Resilience = append(p.Resilience, x.linear())
		}
	} else {
		p.Leader = x.set(len(p.States))
	}
	p.Initial = x.someSet(len(p.States))
	guards := make([]api.Threshold, api.MaxThresholds)
	for i := range guards {
		guards[i] = api.Threshold{Message: x.IntN(max(1, len(p.Messages))), Coef: x.between(1, api.MaxFactor), Bound: x.linear()}
	}
	for i := range x.IntN(api.MaxRules + 1) {
		r := x.rule(p, guards)
		r.Name = []string{"a", "b", "r1", "r_2", "x", "lefty", "abcdefghijkl", "r9"}[i]
		p.Rules = append(p.Rules, r)
	}
	return deepCopy(p)
}

func (x source) rule(p api.Protocol, guards []api.Threshold) api.Rule {
	state := func() int { return x.IntN(len(p.States)) }
	value := func() int { return x.between(-1, len(p.Values)-1) }
	r := api.Rule{Kind: x.between(api.Neighbor, api.Pass), From: state(), To: state(), Read: -1, Write: -1}
	if p.Topology == api.Clique {
		r.Kind = x.between(api.Local, api.Broadcast)
		r.Read, r.Write = value(), value()
	}
	switch r.Kind {
	case api.Local:
		r.Exists, r.Forall, r.Send = x.set(len(p.States)), x.set(len(p.States)), x.set(len(p.Messages))
		if len(p.Messages) > 0 {
			for range x.IntN(api.MaxGuards + 1) {
				r.Guards = append(r.Guards, guards[x.IntN(len(guards))])
			}
		}
	case api.Broadcast:
		for range p.States {
			r.Response = append(r.Response, state())
		}
	case api.Neighbor:
		r.Left, r.Right = x.set(len(p.States)), x.set(len(p.States))
		if p.Topology != api.Ring {
			r.At = x.between(api.AtAny, api.AtLast)
		}
		if p.Topology == api.Tree {
			r.Parent = x.set(len(p.States))
		}
	case api.Pass:
		r.Direction = x.between(api.ToRight, api.ToLeft)
		if p.Topology == api.Tree {
			r.Direction = x.between(api.ToChild, api.ToParent)
		}
	}
	if r.Kind == api.Pair || r.Kind == api.Pass {
		r.PartnerFrom, r.PartnerTo = state(), state()
	}
	return r
}

// property returns a valid property of p.
func (x source) property(p api.Protocol) api.Property {
	q := api.Property{Name: "q", Kind: x.between(api.Never, api.Eventually)}
	for _, i := range p.Initial {
		if x.IntN(3) == 0 {
			q.Start = append(q.Start, i)
		}
	}
	if q.Kind == api.Eventually {
		q.Goal = x.someSet(len(p.States))
		return q
	}
	for range x.between(1, api.MaxCounts) {
		q.Bad = append(q.Bad, api.Count{States: x.someSet(len(p.States)), Least: x.between(1, api.MaxLeast)})
	}
	if p.Topology != api.Clique && x.IntN(2) == 0 {
		q.Adjacent = []int{x.IntN(len(p.States)), x.IntN(len(p.States))}
		if x.IntN(2) == 0 {
			q.Bad = nil
		}
	}
	return q
}

// disturb changes a number, a name or a list somewhere in *target.
func (x source) disturb(target any) {
	var places []reflect.Value
	var visit func(v reflect.Value)
	visit = func(v reflect.Value) {
		switch v.Kind() {
		case reflect.Struct:
			for i := range v.NumField() {
				visit(v.Field(i))
			}
			return
		case reflect.Slice:
			for i := range v.Len() {
				visit(v.Index(i))
			}
		}
		places = append(places, v)
	}
	visit(reflect.ValueOf(target).Elem())
	switch v := places[x.IntN(len(places))]; v.Kind() {
	case reflect.Int:
		list := []int{-1, 0, 1, 2, 3, 4, 5, 6, 7, 100, 101, -100, -101, minInt, maxInt}
		v.SetInt(int64(list[x.IntN(len(list))]))
	case reflect.String:
		list := []string{"", "a", "b", "rule", "abcdefghijklm", "A", "a-b", "é", "n"}
		v.SetString(list[x.IntN(len(list))])
	case reflect.Slice:
		x.disturbList(v)
	}
}

func (x source) disturbList(v reflect.Value) {
	switch x.IntN(3) {
	case 0:
		v.Set(reflect.Zero(v.Type()))
	case 1:
		one := reflect.New(v.Type().Elem()).Elem()
		if one.Kind() == reflect.String {
			one.SetString([]string{"a", "b", "extra"}[x.IntN(3)])
		}
		v.Set(reflect.Append(copyValue(v), one))
	case 2:
		if v.Len() > 0 {
			v.Set(copyValue(v.Slice(0, v.Len()-1)))
		}
	}
}

// replaced returns text with the first occurrence of old replaced, which must be there.
func replaced(t *testing.T, text, old, with string) string {
	t.Helper()
	if !strings.Contains(text, old) {
		t.Fatalf("%q is not in %q", old, text)
	}
	return strings.Replace(text, old, with, 1)
}
