package protocol

import (
	"slices"

	"familycheck/api"
)

// Apply returns p after the edit e: see P2.11.
func Apply(p api.Protocol, e api.Edit) (api.Protocol, api.Errno) {
	if code := Validate(p); code != api.OK {
		return api.Protocol{}, code
	}
	if code := editError(p, e); code != api.OK {
		return api.Protocol{}, code
	}
	next := edited(p, e)
	if code := Validate(next); code != api.OK {
		return api.Protocol{}, code
	}
	return next, api.OK
}

// editError says why e cannot be carried out, if it cannot. Whether its result is valid is examined afterwards.
func editError(p api.Protocol, e api.Edit) api.Errno {
	switch e.Kind {
	case api.AddRule:
		return api.OK
	case api.SetRule, api.RemoveRule:
		if !isIndex(e.Index, len(p.Rules)) {
			return api.ErrRule
		}
		return api.OK
	case api.AddInitial, api.RemoveInitial, api.RenameState:
		return stateEditError(p, e)
	}
	return api.ErrArg
}

func stateEditError(p api.Protocol, e api.Edit) api.Errno {
	if !isIndex(e.State, len(p.States)) {
		return api.ErrState
	}
	initial := slices.Contains(p.Initial, e.State)
	if e.Kind == api.AddInitial && initial || e.Kind == api.RemoveInitial && !initial {
		return api.ErrArg
	}
	return api.OK
}

// edited carries out an edit without an error.
func edited(p api.Protocol, e api.Edit) api.Protocol {
	next := cloneFamily(p)
	switch e.Kind {
	case api.AddRule:
		next.Rules = append(next.Rules, cloneRule(e.Rule))
	case api.SetRule:
		next.Rules[e.Index] = cloneRule(e.Rule)
	case api.RemoveRule:
		next.Rules = slices.Delete(next.Rules, e.Index, e.Index+1)
	case api.AddInitial:
		next.Initial = append(next.Initial, e.State)
		slices.Sort(next.Initial)
	case api.RemoveInitial:
		at := slices.Index(next.Initial, e.State)
		next.Initial = slices.Delete(next.Initial, at, at+1)
	case api.RenameState:
		next.States[e.State] = e.Name
	}
	return next
}

func cloneFamily(p api.Protocol) api.Protocol {
	p.States = slices.Clone(p.States)
	p.Messages = slices.Clone(p.Messages)
	p.Values = slices.Clone(p.Values)
	p.Resilience = slices.Clone(p.Resilience)
	p.Initial = slices.Clone(p.Initial)
	p.Leader = slices.Clone(p.Leader)
	p.Rules = slices.Clone(p.Rules)
	for i, r := range p.Rules {
		p.Rules[i] = cloneRule(r)
	}
	return p
}

func cloneRule(r api.Rule) api.Rule {
	r.Response = slices.Clone(r.Response)
	r.Guards = slices.Clone(r.Guards)
	r.Exists = slices.Clone(r.Exists)
	r.Forall = slices.Clone(r.Forall)
	r.Send = slices.Clone(r.Send)
	r.Left = slices.Clone(r.Left)
	r.Right = slices.Clone(r.Right)
	r.Parent = slices.Clone(r.Parent)
	return r
}
