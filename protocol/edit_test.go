package protocol

import (
	"slices"
	"testing"

	"familycheck/api"
)

// P2.11: each kind of edit.
func TestApply(t *testing.T) {
	extra := full().Rules[0]
	extra.Name, extra.To = "extra", 3
	garbage := api.Edit{Index: 99, State: 99, Name: "A", Rule: api.Rule{Kind: 99}}
	for i, x := range []struct {
		edit api.Edit
		want func(p *api.Protocol)
	}{
		{api.Edit{Kind: api.AddRule, Rule: extra, Index: 99, State: 99, Name: "A"}, func(p *api.Protocol) { p.Rules = append(p.Rules, extra) }},
		{api.Edit{Kind: api.SetRule, Rule: extra, Index: 0, State: -9, Name: "A"}, func(p *api.Protocol) { p.Rules[0] = extra }},
		{api.Edit{Kind: api.SetRule, Rule: extra, Index: 3}, func(p *api.Protocol) { p.Rules[3] = extra }},
		{api.Edit{Kind: api.SetRule, Rule: full().Rules[1], Index: 1}, func(p *api.Protocol) {}},
		{api.Edit{Kind: api.RemoveRule, Index: 0, State: garbage.State, Name: garbage.Name, Rule: garbage.Rule}, func(p *api.Protocol) { p.Rules = p.Rules[1:] }},
		{api.Edit{Kind: api.RemoveRule, Index: 2}, func(p *api.Protocol) { p.Rules = append(p.Rules[:2], p.Rules[3]) }},
		{api.Edit{Kind: api.RemoveRule, Index: 3}, func(p *api.Protocol) { p.Rules = p.Rules[:3] }},
		{api.Edit{Kind: api.AddInitial, State: 1, Index: garbage.Index, Name: garbage.Name, Rule: garbage.Rule}, func(p *api.Protocol) { p.Initial = []int{0, 1, 2} }},
		{api.Edit{Kind: api.AddInitial, State: 3}, func(p *api.Protocol) { p.Initial = []int{0, 2, 3} }},
		{api.Edit{Kind: api.RemoveInitial, State: 0, Index: garbage.Index, Name: garbage.Name, Rule: garbage.Rule}, func(p *api.Protocol) { p.Initial = []int{2} }},
		{api.Edit{Kind: api.RemoveInitial, State: 2}, func(p *api.Protocol) { p.Initial = []int{0} }},
		{api.Edit{Kind: api.RenameState, State: 3, Name: "e", Index: garbage.Index, Rule: garbage.Rule}, func(p *api.Protocol) { p.States[3] = "e" }},
		{api.Edit{Kind: api.RenameState, State: 0, Name: "a"}, func(p *api.Protocol) {}},
		{api.Edit{Kind: api.RenameState, State: 0, Name: "loc"}, func(p *api.Protocol) { p.States[0] = "loc" }},
	} {
		p, want, edit := full(), full(), deepCopy(x.edit)
		x.want(&want)
		next, e := Apply(p, edit)
		if e != api.OK || !same(next, want) {
			t.Errorf("%d: %+v, error %d", i, next, e)
		}
		if !same(p, full()) || !same(edit, x.edit) {
			t.Errorf("%d: an argument has changed", i)
		}
		if !apart(next, p, edit) {
			t.Errorf("%d: memory is shared", i)
		}
	}
}

// P2.11: a state may become initial in front of the others.
func TestAddFirstInitial(t *testing.T) {
	if p, e := Apply(tok(), api.Edit{Kind: api.AddInitial, State: 0}); e != api.OK || !same(p.Initial, []int{0, 1}) {
		t.Errorf("%v, error %d", p.Initial, e)
	}
}

// P2.11
func TestApplyErrors(t *testing.T) {
	twin, wrong := full().Rules[0], full().Rules[0]
	wrong.Name, wrong.Kind = "wrong", api.Pass
	many := full()
	for _, name := range []string{"r4", "r5", "r6", "r7"} {
		r := full().Rules[3]
		r.Name = name
		many.Rules = append(many.Rules, r)
	}
	guarded := full().Rules[3]
	guarded.Name, guarded.Guards = "guarded", []api.Threshold{{Coef: 8}, {Coef: 9}}
	for i, x := range []struct {
		p    api.Protocol
		edit api.Edit
		e    api.Errno
	}{
		{full(), api.Edit{}, api.ErrArg},
		{full(), api.Edit{Kind: -1, Index: -1, State: -1}, api.ErrArg},
		{full(), api.Edit{Kind: 7}, api.ErrArg},
		{full(), api.Edit{Kind: maxInt}, api.ErrArg},
		{full(), api.Edit{Kind: api.SetRule, Index: -1, Rule: wrong}, api.ErrRule},
		{full(), api.Edit{Kind: api.SetRule, Index: 4, Rule: twin}, api.ErrRule},
		{full(), api.Edit{Kind: api.RemoveRule, Index: -1}, api.ErrRule},
		{full(), api.Edit{Kind: api.RemoveRule, Index: 4}, api.ErrRule},
		{full(), api.Edit{Kind: api.RemoveRule, Index: maxInt}, api.ErrRule},
		{full(), api.Edit{Kind: api.AddInitial, State: -1}, api.ErrState},
		{full(), api.Edit{Kind: api.AddInitial, State: 4}, api.ErrState},
		{full(), api.Edit{Kind: api.RemoveInitial, State: -1}, api.ErrState},
		{full(), api.Edit{Kind: api.RemoveInitial, State: 4}, api.ErrState},
		{full(), api.Edit{Kind: api.RenameState, State: -1, Name: "A"}, api.ErrState},
		{full(), api.Edit{Kind: api.RenameState, State: 4, Name: "e"}, api.ErrState},
		{full(), api.Edit{Kind: api.AddInitial, State: 2}, api.ErrArg},
		{full(), api.Edit{Kind: api.RemoveInitial, State: 1}, api.ErrArg},
		{tok(), api.Edit{Kind: api.RemoveInitial, State: 1}, api.ErrArg},
		{full(), api.Edit{Kind: api.AddRule}, api.ErrName},
		{full(), api.Edit{Kind: api.AddRule, Rule: twin}, api.ErrName},
		{full(), api.Edit{Kind: api.AddRule, Rule: wrong}, api.ErrRule},
		{full(), api.Edit{Kind: api.AddRule, Rule: guarded}, api.ErrLarge},
		{full(), api.Edit{Kind: api.SetRule, Rule: guarded}, api.OK},
		{full(), api.Edit{Kind: api.SetRule, Rule: wrong}, api.ErrRule},
		{full(), api.Edit{Kind: api.SetRule, Index: 1, Rule: twin}, api.ErrName},
		{many, api.Edit{Kind: api.AddRule, Rule: twin}, api.ErrLarge},
		{many, api.Edit{Kind: api.SetRule, Index: 7, Rule: full().Rules[3]}, api.ErrName},
		{many, api.Edit{Kind: api.RemoveRule, Index: 7}, api.OK},
		{full(), api.Edit{Kind: api.RenameState, State: 1, Name: ""}, api.ErrName},
		{full(), api.Edit{Kind: api.RenameState, State: 1, Name: "all"}, api.ErrName},
		{full(), api.Edit{Kind: api.RenameState, State: 1, Name: "a"}, api.ErrName},
		{full(), api.Edit{Kind: api.RenameState, State: 1, Name: "m2"}, api.ErrName},
		{full(), api.Edit{Kind: api.RenameState, State: 1, Name: "y"}, api.ErrName},
	} {
		p, e := Apply(x.p, x.edit)
		if e != x.e || e != api.OK && !isZero(p) {
			t.Errorf("%d: %+v, error %d, not %d", i, p, e, x.e)
		}
	}
	for e, p := range invalid() {
		if next, got := Apply(p, api.Edit{}); got != e || !isZero(next) {
			t.Errorf("%+v, error %d, not %d", next, got, e)
		}
	}
}

// plainApply writes out what an edit without an error does.
func plainApply(p api.Protocol, e api.Edit) api.Protocol {
	var rules []api.Rule
	for i, r := range p.Rules {
		switch {
		case e.Kind == api.SetRule && i == e.Index:
			rules = append(rules, e.Rule)
		case e.Kind != api.RemoveRule || i != e.Index:
			rules = append(rules, r)
		}
	}
	if e.Kind == api.AddRule {
		rules = append(rules, e.Rule)
	}
	var initial []int
	for i := range p.States {
		was := slices.Contains(p.Initial, i)
		if was && (e.Kind != api.RemoveInitial || i != e.State) || e.Kind == api.AddInitial && i == e.State {
			initial = append(initial, i)
		}
	}
	next := deepCopy(p)
	next.Rules, next.Initial = rules, initial
	if e.Kind == api.RenameState {
		next.States[e.State] = e.Name
	}
	return next
}

// P2.11, R6: any edit of any family gives a valid family or an error.
func TestApplyAnyEdit(t *testing.T) {
	x := newSource(4)
	done := map[int]int{}
	for range 8000 {
		p := x.family()
		edit := api.Edit{Kind: x.between(api.AddRule, api.RenameState), Index: x.IntN(4), State: x.IntN(4), Name: "new"}
		if edit.Kind <= api.SetRule {
			edit.Rule = x.rule(p, []api.Threshold{{Coef: 1}})
			edit.Rule.Name = "new"
		}
		if x.IntN(2) == 0 {
			x.disturb(&edit)
		}
		p, edit = deepCopy(p), deepCopy(edit)
		before, given := deepCopy(p), deepCopy(edit)
		next, e := Apply(p, edit)
		if !same(p, before) || !same(edit, given) || !apart(next, p, edit) {
			t.Fatalf("%+v, %+v: an argument has changed or shares memory", before, given)
		}
		if e != api.OK {
			if !isZero(next) {
				t.Fatalf("%+v, error %d", next, e)
			}
			continue
		}
		if Validate(next) != api.OK || !same(next, plainApply(p, edit)) {
			t.Fatalf("%+v, %+v: %+v", p, edit, next)
		}
		done[edit.Kind]++
	}
	for kind := api.AddRule; kind <= api.RenameState; kind++ {
		if done[kind] < 100 {
			t.Errorf("kind %d: %d times", kind, done[kind])
		}
	}
}
