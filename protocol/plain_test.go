package protocol

import (
	"reflect"
	"slices"
	"strings"

	"familycheck/api"
)

// A check is an error and whether it applies. Lists of them repeat the document's sections on validity as plainly as can be, because Validate and ValidateProperty are held against them.
type check struct {
	e       api.Errno
	applies bool
}

func firstError(list []check) api.Errno {
	for _, c := range list {
		if c.applies {
			return c.e
		}
	}
	return api.OK
}

func plainName(s string) bool {
	if s == "" || len(s) > 12 || strings.Trim(s, "abcdefghijklmnopqrstuvwxyz0123456789_") != "" || s[0] < 'a' {
		return false
	}
	return !slices.Contains(strings.Fields(reservedWords), s)
}

func outside(x, low, high int) bool { return x < low || x > high }

func plainLarge(l api.Linear) bool {
	return outside(l.C, -100, 100) || outside(l.N, -100, 100) || outside(l.T, -100, 100) || outside(l.F, -100, 100)
}

func plainSet(list []int, count int) []check {
	beyond := slices.ContainsFunc(list, func(x int) bool { return outside(x, 0, count-1) })
	twice := len(slices.Compact(slices.Sorted(slices.Values(list)))) != len(list)
	return []check{{api.ErrState, beyond}, {api.ErrArg, twice || !slices.IsSorted(list)}}
}

func plainValidate(p api.Protocol) api.Errno {
	names := slices.Concat(p.States, p.Messages, p.Values)
	seen := map[string]bool{}
	wrong := false
	for _, s := range names {
		wrong = wrong || seen[s] || !plainName(s)
		seen[s] = true
	}
	clique := p.Topology == api.Clique
	list := []check{
		{api.ErrName, !plainName(p.Name)},
		{api.ErrArg, outside(p.Topology, 1, 4) || outside(p.Fault, 0, 3)},
		{api.ErrArg, len(p.States) == 0},
		{api.ErrLarge, len(p.States) > 6 || len(p.Messages) > 3 || len(p.Values) > 3 || len(p.Resilience) > 4 || len(p.Rules) > 8},
		{api.ErrName, wrong},
		{api.ErrArg, !clique && (len(p.Messages) > 0 || len(p.Values) > 0 || len(p.Resilience) > 0 || p.Fault != 0) || clique && len(p.Leader) > 0},
		{api.ErrLarge, slices.ContainsFunc(p.Resilience, plainLarge)},
	}
	list = append(list, plainSet(p.Initial, len(p.States))...)
	list = append(list, check{api.ErrArg, len(p.Initial) == 0})
	list = append(list, plainSet(p.Leader, len(p.States))...)
	guards := map[api.Threshold]bool{}
	for i, r := range p.Rules {
		list = append(list, plainRule(p, i)...)
		for _, g := range r.Guards {
			guards[g] = true
		}
	}
	return firstError(append(list, check{api.ErrLarge, len(guards) > 3}))
}

// usedParts has, for each kind of rule, the fields that it uses.
func usedParts(kind, topology int) string {
	common := " Name Kind From To "
	if topology == api.Tree && kind == api.Neighbor {
		return common + "At Left Right Parent "
	}
	return common + map[int]string{
		api.Local:     "Guards Exists Forall Read Write Send ",
		api.Pair:      "PartnerFrom PartnerTo Read Write ",
		api.Broadcast: "Response Read Write ",
		api.Neighbor:  "At Left Right ",
		api.Pass:      "PartnerFrom PartnerTo Direction ",
	}[kind]
}

func plainUnused(r api.Rule, topology int) bool {
	v := reflect.ValueOf(r)
	for i := range v.NumField() {
		name, field := v.Type().Field(i).Name, v.Field(i)
		if strings.Contains(usedParts(r.Kind, topology), " "+name+" ") {
			continue
		}
		switch {
		case field.Kind() == reflect.Slice && field.Len() > 0:
			return true
		case name == "Read" || name == "Write":
			if field.Int() != -1 {
				return true
			}
		case field.Kind() == reflect.Int && field.Int() != 0:
			return true
		}
	}
	return false
}

func plainRule(p api.Protocol, i int) []check {
	r, states := p.Rules[i], len(p.States)
	clique, ring, tree := p.Topology == api.Clique, p.Topology == api.Ring, p.Topology == api.Tree
	earlier := slices.ContainsFunc(p.Rules[:i], func(x api.Rule) bool { return x.Name == r.Name })
	local, pair, broadcast, neighbor, pass := r.Kind == api.Local, r.Kind == api.Pair, r.Kind == api.Broadcast, r.Kind == api.Neighbor, r.Kind == api.Pass
	list := []check{
		{api.ErrName, !plainName(r.Name) || earlier},
		{api.ErrRule, outside(r.Kind, 1, 5) || (local || pair || broadcast) && !clique || (neighbor || pass) && clique},
		{api.ErrRule, plainUnused(r, p.Topology)},
		{api.ErrState, outside(r.From, 0, states-1) || outside(r.To, 0, states-1)},
		{api.ErrState, (pair || pass) && (outside(r.PartnerFrom, 0, states-1) || outside(r.PartnerTo, 0, states-1))},
		{api.ErrArg, broadcast && len(r.Response) != states},
		{api.ErrState, broadcast && slices.ContainsFunc(r.Response, func(x int) bool { return outside(x, 0, states-1) })},
	}
	for _, g := range r.Guards {
		list = append(list, check{api.ErrState, outside(g.Message, 0, len(p.Messages)-1)}, check{api.ErrArg, outside(g.Coef, 1, 100)}, check{api.ErrLarge, plainLarge(g.Bound)})
	}
	list = append(list, check{api.ErrLarge, len(r.Guards) > 2})
	list = append(list, plainSet(r.Exists, states)...)
	list = append(list, plainSet(r.Forall, states)...)
	list = append(list, check{api.ErrState, (local || pair || broadcast) && (outside(r.Read, -1, len(p.Values)-1) || outside(r.Write, -1, len(p.Values)-1))})
	list = append(list, plainSet(r.Send, len(p.Messages))...)
	list = append(list, plainSet(r.Left, states)...)
	list = append(list, plainSet(r.Right, states)...)
	list = append(list, plainSet(r.Parent, states)...)
	return append(list,
		check{api.ErrArg, neighbor && (outside(r.At, 0, 2) || r.At != 0 && ring)},
		check{api.ErrArg, pass && !tree && outside(r.Direction, 1, 2)},
		check{api.ErrArg, pass && tree && outside(r.Direction, 3, 4)})
}

func plainValidateProperty(p api.Protocol, q api.Property) api.Errno {
	states := len(p.States)
	never := q.Kind == api.Never
	if e := plainValidate(p); e != api.OK {
		return e
	}
	list := []check{
		{api.ErrName, !plainName(q.Name)},
		{api.ErrArg, outside(q.Kind, 1, 2)},
		{api.ErrArg, never && len(q.Goal) > 0 || !never && len(q.Bad)+len(q.Adjacent) > 0},
	}
	list = append(list, plainSet(q.Start, states)...)
	list = append(list, check{api.ErrState, slices.ContainsFunc(q.Start, func(x int) bool { return !slices.Contains(p.Initial, x) })})
	if !never {
		list = append(list, plainSet(q.Goal, states)...)
		return firstError(append(list, check{api.ErrArg, len(q.Goal) == 0}))
	}
	list = append(list, check{api.ErrArg, len(q.Bad)+len(q.Adjacent) == 0}, check{api.ErrLarge, len(q.Bad) > 3})
	for _, c := range q.Bad {
		list = append(list, plainSet(c.States, states)...)
		list = append(list, check{api.ErrArg, len(c.States) == 0 || outside(c.Least, 1, 3)})
	}
	return firstError(append(list,
		check{api.ErrRule, len(q.Adjacent) > 0 && p.Topology == api.Clique},
		check{api.ErrArg, len(q.Adjacent) != 0 && len(q.Adjacent) != 2},
		check{api.ErrState, slices.ContainsFunc(q.Adjacent, func(x int) bool { return outside(x, 0, states-1) })}))
}
