package protocol

import (
	"slices"

	"familycheck/api"
)

// ValidateProperty returns the first error of q, a property of p: see P2.4.
func ValidateProperty(p api.Protocol, q api.Property) api.Errno {
	if e := Validate(p); e != api.OK {
		return e
	}
	switch {
	case !ValidName(q.Name):
		return api.ErrName
	case q.Kind != api.Never && q.Kind != api.Eventually:
		return api.ErrArg
	case q.Kind == api.Never && len(q.Goal) > 0:
		return api.ErrArg
	case q.Kind == api.Eventually && (len(q.Bad) > 0 || len(q.Adjacent) > 0):
		return api.ErrArg
	}
	if e := setError(q.Start, len(p.States)); e != api.OK {
		return e
	}
	for _, x := range q.Start {
		if !slices.Contains(p.Initial, x) {
			return api.ErrState
		}
	}
	if q.Kind == api.Eventually {
		return someSetError(q.Goal, len(p.States))
	}
	return badError(p, q)
}

// badError examines what a Never property forbids.
func badError(p api.Protocol, q api.Property) api.Errno {
	if len(q.Bad) == 0 && len(q.Adjacent) == 0 {
		return api.ErrArg
	}
	if len(q.Bad) > api.MaxCounts {
		return api.ErrLarge
	}
	for _, c := range q.Bad {
		if e := someSetError(c.States, len(p.States)); e != api.OK {
			return e
		}
		if !between(c.Least, 1, api.MaxLeast) {
			return api.ErrArg
		}
	}
	return adjacentError(p, q.Adjacent)
}

func adjacentError(p api.Protocol, adjacent []int) api.Errno {
	switch {
	case len(adjacent) == 0:
		return api.OK
	case p.Topology == api.Clique:
		return api.ErrRule
	case len(adjacent) != 2:
		return api.ErrArg
	case !isIndex(adjacent[0], len(p.States)) || !isIndex(adjacent[1], len(p.States)):
		return api.ErrState
	}
	return api.OK
}
