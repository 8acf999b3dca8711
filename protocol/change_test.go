package protocol

import (
	"reflect"
	"slices"
	"testing"

	"familycheck/api"
)

// differences returns copies of x that differ from it in one place each: a number, a name, or the length of a list.
func differences[T any](x T) []T {
	var all []T
	for i := 0; ; i++ {
		c := deepCopy(x)
		left := i
		if !changePlace(reflect.ValueOf(&c).Elem(), &left) {
			return all
		}
		all = append(all, c)
	}
}

// changePlace changes the place number *left and reports whether there is one.
func changePlace(v reflect.Value, left *int) bool {
	switch v.Kind() {
	case reflect.Struct:
		for i := range v.NumField() {
			if changePlace(v.Field(i), left) {
				return true
			}
		}
		return false
	case reflect.Slice:
		if *left == 0 {
			v.Set(reflect.Append(v, reflect.New(v.Type().Elem()).Elem()))
			return true
		}
		*left--
		for i := range v.Len() {
			if changePlace(v.Index(i), left) {
				return true
			}
		}
		return false
	}
	if *left > 0 {
		*left--
		return false
	}
	if v.Kind() == reflect.String {
		v.SetString(v.String() + "x")
	} else {
		v.SetInt(v.Int() + 1)
	}
	return true
}

// P2.10: every field matters, in valid families and in others.
func TestEqual(t *testing.T) {
	list := []api.Protocol{{}, {Rules: []api.Rule{{}}}, st(), mx(), tok(), full(), row(), oak()}
	for i, a := range list {
		for k, b := range list {
			if Equal(a, deepCopy(b)) != (i == k) {
				t.Errorf("%d and %d", i, k)
			}
		}
		for k, b := range differences(a) {
			if Equal(a, b) || Equal(b, a) {
				t.Errorf("%d and its difference %d: %+v", i, k, b)
			}
		}
	}
	if n := len(differences(api.Rule{})); n != 18 {
		t.Error("differences of a rule:", n)
	}
}

// P2.10, R4
func TestEqualEmpty(t *testing.T) {
	r := api.Rule{Response: []int{}, Guards: []api.Threshold{}, Exists: []int{}, Forall: []int{}, Send: []int{}, Left: []int{}, Right: []int{}, Parent: []int{}}
	a := api.Protocol{States: []string{}, Messages: []string{}, Values: []string{}, Resilience: []api.Linear{}, Initial: []int{}, Leader: []int{}, Rules: []api.Rule{}}
	if !Equal(a, api.Protocol{}) || !Equal(api.Protocol{}, a) {
		t.Error("families")
	}
	if !Equal(api.Protocol{Rules: []api.Rule{r}}, api.Protocol{Rules: []api.Rule{{}}}) {
		t.Error("rules")
	}
	q := api.Property{Start: []int{}, Bad: []api.Count{}, Adjacent: []int{}, Goal: []int{}}
	if !EqualProperty(q, api.Property{}) || !EqualProperty(api.Property{}, q) {
		t.Error("properties")
	}
	if !EqualProperty(api.Property{Bad: []api.Count{{States: []int{}}}}, api.Property{Bad: []api.Count{{}}}) {
		t.Error("counts")
	}
}

// P2.10
func TestEqualProperty(t *testing.T) {
	list := []api.Property{{}, never(), {Name: "q", Kind: api.Never, Start: []int{0}, Bad: []api.Count{{}, {States: []int{1, 2}, Least: 3}}, Adjacent: []int{0, 1}}, {Name: "q", Kind: api.Eventually, Goal: []int{1, 7}}}
	for i, a := range list {
		for k, b := range list {
			if EqualProperty(a, deepCopy(b)) != (i == k) {
				t.Errorf("%d and %d", i, k)
			}
		}
		for k, b := range differences(a) {
			if EqualProperty(a, b) || EqualProperty(b, a) {
				t.Errorf("%d and its difference %d: %+v", i, k, b)
			}
		}
	}
}

// P2.10
func TestChanged(t *testing.T) {
	for i, x := range []struct {
		make  func() api.Protocol
		spoil func(p *api.Protocol)
		want  Change
	}{
		{full, func(p *api.Protocol) {}, Change{Same: true}},
		{full, func(p *api.Protocol) { p.Name = "other" }, Change{Same: true}},
		{full, func(p *api.Protocol) { p.States[1], p.Messages[0], p.Values[1] = "e", "m9", "z" }, Change{Same: true}},
		{full, func(p *api.Protocol) { p.Rules[0].Name, p.Rules[1].Name = "two", "loc" }, Change{Same: true}},
		{full, func(p *api.Protocol) { p.Rules[1], p.Rules[2] = p.Rules[2], p.Rules[1] }, Change{}},
		{full, func(p *api.Protocol) { p.Rules = p.Rules[:3] }, Change{}},
		{full, func(p *api.Protocol) { p.Rules = nil }, Change{}},
		{full, func(p *api.Protocol) { p.Rules[3] = p.Rules[0]; p.Rules[3].Name = "again" }, Change{}},
		{full, func(p *api.Protocol) { p.Rules = append(p.Rules, p.Rules[1]); p.Rules[4].Name = "again" }, Change{}},
		{full, func(p *api.Protocol) { p.Rules[1].Write = -1 }, Change{Rules: []int{1}}},
		{full, func(p *api.Protocol) { p.Rules[0].Guards[1].Bound.F = 1; p.Rules[3].To = 3; p.Rules[2].Response[0] = 3 }, Change{Rules: []int{0, 2, 3}}},
		{full, func(p *api.Protocol) {
			p.Rules = append([]api.Rule{p.Rules[3]}, p.Rules...)
			p.Rules[0].Name, p.Rules[0].From = "new", 0
		}, Change{Rules: []int{0}}},
		{full, func(p *api.Protocol) { p.States = append(p.States, "e"); p.Rules = p.Rules[:2] }, Change{Other: true}},
		{full, func(p *api.Protocol) { p.Messages = append(p.Messages[:2], "z")[:2]; p.Rules = p.Rules[1:] }, Change{Other: true}},
		{full, func(p *api.Protocol) { p.Values = append(p.Values, "z") }, Change{Other: true}},
		{full, func(p *api.Protocol) { p.Fault = api.Omission }, Change{Other: true}},
		{full, func(p *api.Protocol) { p.Resilience[1].F = -2 }, Change{Other: true}},
		{full, func(p *api.Protocol) { p.Resilience[0], p.Resilience[1] = p.Resilience[1], p.Resilience[0] }, Change{Other: true}},
		{full, func(p *api.Protocol) { p.Resilience = p.Resilience[:1] }, Change{Other: true}},
		{full, func(p *api.Protocol) { p.Initial = []int{0, 3} }, Change{Other: true}},
		{full, func(p *api.Protocol) { p.Initial = []int{0}; p.Rules[3].To = 0 }, Change{Other: true, Rules: []int{3}}},
		{row, func(p *api.Protocol) { p.Leader = nil }, Change{Other: true}},
		{row, func(p *api.Protocol) { p.Leader = []int{2} }, Change{Other: true}},
		{tok, func(p *api.Protocol) { p.Topology = api.Line }, Change{Other: true}},
		{tok, func(p *api.Protocol) { p.Topology = api.Tree; p.Rules[0].Direction = api.ToChild }, Change{Other: true, Rules: []int{0}}},
	} {
		a, b := x.make(), x.make()
		x.spoil(&b)
		before := deepCopy(b)
		if c, e := Changed(a, b); e != api.OK || !same(c, x.want) || !same(a, x.make()) || !same(b, before) {
			t.Errorf("%d: %v, error %d", i, c, e)
		}
	}
	if c, e := Changed(full(), mx()); e != api.OK || !same(c, Change{Other: true, Rules: []int{0, 1, 2}}) {
		t.Errorf("full and mx: %v, error %d", c, e)
	}
}

// P2.10, R2
func TestChangedErrors(t *testing.T) {
	for e, p := range invalid() {
		if c, got := Changed(p, api.Protocol{}); got != e || !isZero(c) {
			t.Errorf("%v, error %d, not %d", c, got, e)
		}
		if c, got := Changed(st(), p); got != e || !isZero(c) {
			t.Errorf("%v, error %d, not %d", c, got, e)
		}
	}
}

// P2.10: every field of a rule but its name makes it another rule.
func TestChangedByEachField(t *testing.T) {
	for _, a := range []api.Protocol{full(), row(), oak()} {
		for i, r := range a.Rules {
			for _, other := range differences(r) {
				b := deepCopy(a)
				b.Rules[i] = other
				if Validate(b) != api.OK {
					continue
				}
				named := other.Name != r.Name
				known := slices.ContainsFunc(a.Rules, func(x api.Rule) bool { x.Name = other.Name; return same(x, other) })
				c, e := Changed(a, b)
				if e != api.OK || c.Other || c.Same != named || !named && !known && !slices.Equal(c.Rules, []int{i}) || (named || known) && len(c.Rules) > 0 {
					t.Errorf("%+v: %v, error %d", other, c, e)
				}
			}
		}
	}
}
