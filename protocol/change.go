package protocol

import (
	"slices"

	"familycheck/api"
)

// Change says how a family differs from an earlier one: see P2.10. The names do not matter.
type Change struct {
	Same  bool
	Other bool
	Rules []int
}

// Equal reports whether all fields are equal. The families need not be valid.
func Equal(a, b api.Protocol) bool {
	return a.Name == b.Name && a.Topology == b.Topology && a.Fault == b.Fault &&
		slices.Equal(a.States, b.States) && slices.Equal(a.Messages, b.Messages) && slices.Equal(a.Values, b.Values) &&
		slices.Equal(a.Resilience, b.Resilience) && slices.Equal(a.Initial, b.Initial) && slices.Equal(a.Leader, b.Leader) &&
		slices.EqualFunc(a.Rules, b.Rules, sameRule)
}

func sameRule(a, b api.Rule) bool {
	return a.Name == b.Name && sameParts(a, b)
}

// sameParts reports whether the rules are equal in all fields but Name.
func sameParts(a, b api.Rule) bool {
	return a.Kind == b.Kind && a.From == b.From && a.To == b.To &&
		a.PartnerFrom == b.PartnerFrom && a.PartnerTo == b.PartnerTo && slices.Equal(a.Response, b.Response) &&
		slices.Equal(a.Guards, b.Guards) && slices.Equal(a.Exists, b.Exists) && slices.Equal(a.Forall, b.Forall) &&
		a.Read == b.Read && a.Write == b.Write && slices.Equal(a.Send, b.Send) &&
		a.At == b.At && slices.Equal(a.Left, b.Left) && slices.Equal(a.Right, b.Right) && slices.Equal(a.Parent, b.Parent) &&
		a.Direction == b.Direction
}

// EqualProperty reports whether all fields are equal. The properties need not be valid.
func EqualProperty(a, b api.Property) bool {
	return a.Name == b.Name && a.Kind == b.Kind && slices.Equal(a.Start, b.Start) &&
		slices.EqualFunc(a.Bad, b.Bad, sameCount) && slices.Equal(a.Adjacent, b.Adjacent) && slices.Equal(a.Goal, b.Goal)
}

func sameCount(a, b api.Count) bool {
	return a.Least == b.Least && slices.Equal(a.States, b.States)
}

// Changed compares the family b with the earlier family a.
func Changed(a, b api.Protocol) (Change, api.Errno) {
	if e := Validate(a); e != api.OK {
		return Change{}, e
	}
	if e := Validate(b); e != api.OK {
		return Change{}, e
	}
	other := differOutsideRules(a, b)
	return Change{
		Same:  !other && slices.EqualFunc(a.Rules, b.Rules, sameParts),
		Other: other,
		Rules: newRules(a.Rules, b.Rules),
	}, api.OK
}

func differOutsideRules(a, b api.Protocol) bool {
	return a.Topology != b.Topology || a.Fault != b.Fault ||
		len(a.States) != len(b.States) || len(a.Messages) != len(b.Messages) || len(a.Values) != len(b.Values) ||
		!slices.Equal(a.Resilience, b.Resilience) || !slices.Equal(a.Initial, b.Initial) || !slices.Equal(a.Leader, b.Leader)
}

// newRules returns the indexes of the rules of b that are not among those of a.
func newRules(a, b []api.Rule) []int {
	var all []int
	for i, r := range b {
		known := func(x api.Rule) bool { return sameParts(x, r) }
		if !slices.ContainsFunc(a, known) {
			all = append(all, i)
		}
	}
	return all
}
