package protocol

import (
	"cmp"

	"familycheck/api"
)

// none is the value of Read and Write that denotes no value of the shared variable.
const none = -1

// ruleError returns the first error of the rule number i: see P2.3. The parts of p before the rules are valid.
func ruleError(p api.Protocol, i int) api.Errno {
	r := p.Rules[i]
	switch {
	case !ValidName(r.Name) || hasRule(p.Rules[:i], r.Name):
		return api.ErrName
	case !kindFits(r.Kind, p.Topology) || !othersEmpty(r, p.Topology):
		return api.ErrRule
	case !statesExist(r, len(p.States)):
		return api.ErrState
	}
	return partsError(p, r)
}

func hasRule(rules []api.Rule, name string) bool {
	for _, r := range rules {
		if r.Name == name {
			return true
		}
	}
	return false
}

func kindFits(kind, topology int) bool {
	switch kind {
	case api.Local, api.Pair, api.Broadcast:
		return topology == api.Clique
	case api.Neighbor, api.Pass:
		return topology != api.Clique
	}
	return false
}

// othersEmpty reports whether the parts that the kind of r does not use are empty.
func othersEmpty(r api.Rule, topology int) bool {
	return sameParts(withoutUsed(r, topology), api.Rule{Kind: r.Kind, Read: none, Write: none})
}

// withoutUsed returns r with the parts empty that its kind uses.
func withoutUsed(r api.Rule, topology int) api.Rule {
	r.From, r.To = 0, 0
	switch r.Kind {
	case api.Local:
		r.Guards, r.Exists, r.Forall, r.Send = nil, nil, nil, nil
		r.Read, r.Write = none, none
	case api.Pair:
		r.PartnerFrom, r.PartnerTo = 0, 0
		r.Read, r.Write = none, none
	case api.Broadcast:
		r.Response = nil
		r.Read, r.Write = none, none
	case api.Neighbor:
		r.At, r.Left, r.Right = api.AtAny, nil, nil
		if topology == api.Tree {
			r.Parent = nil
		}
	case api.Pass:
		r.PartnerFrom, r.PartnerTo, r.Direction = 0, 0, 0
	}
	return r
}

// statesExist may look at the partner of every kind: where it is not used it is 0, and each family has a state 0.
func statesExist(r api.Rule, states int) bool {
	return isIndex(r.From, states) && isIndex(r.To, states) && isIndex(r.PartnerFrom, states) && isIndex(r.PartnerTo, states)
}

// partsError examines the parts of a rule that only some kinds use.
func partsError(p api.Protocol, r api.Rule) api.Errno {
	states := len(p.States)
	switch r.Kind {
	case api.Broadcast:
		if e := responseError(r.Response, states); e != api.OK {
			return e
		}
		fallthrough
	case api.Pair:
		return sharedError(r, len(p.Values))
	case api.Local:
		return cmp.Or(guardsError(r.Guards, len(p.Messages)), setError(r.Exists, states), setError(r.Forall, states), sharedError(r, len(p.Values)), setError(r.Send, len(p.Messages)))
	case api.Neighbor:
		return cmp.Or(setError(r.Left, states), setError(r.Right, states), setError(r.Parent, states), positionError(r.At, p.Topology))
	}
	return directionError(r.Direction, p.Topology)
}

func responseError(response []int, states int) api.Errno {
	if len(response) != states {
		return api.ErrArg
	}
	for _, x := range response {
		if !isIndex(x, states) {
			return api.ErrState
		}
	}
	return api.OK
}

func guardsError(guards []api.Threshold, messages int) api.Errno {
	for _, g := range guards {
		switch {
		case !isIndex(g.Message, messages):
			return api.ErrState
		case !between(g.Coef, 1, api.MaxFactor):
			return api.ErrArg
		case isLarge(g.Bound):
			return api.ErrLarge
		}
	}
	if len(guards) > api.MaxGuards {
		return api.ErrLarge
	}
	return api.OK
}

func sharedError(r api.Rule, values int) api.Errno {
	if r.Read != none && !isIndex(r.Read, values) || r.Write != none && !isIndex(r.Write, values) {
		return api.ErrState
	}
	return api.OK
}

func positionError(at, topology int) api.Errno {
	if !between(at, api.AtAny, api.AtLast) || at != api.AtAny && topology == api.Ring {
		return api.ErrArg
	}
	return api.OK
}

func directionError(direction, topology int) api.Errno {
	first, second := api.ToRight, api.ToLeft
	if topology == api.Tree {
		first, second = api.ToChild, api.ToParent
	}
	if direction != first && direction != second {
		return api.ErrArg
	}
	return api.OK
}
