package protocol

import (
	"cmp"
	"slices"

	"familycheck/api"
)

// Validate returns the first error of p: see P2.2.
func Validate(p api.Protocol) api.Errno {
	switch {
	case !ValidName(p.Name):
		return api.ErrName
	case !between(p.Topology, api.Clique, api.Tree) || !between(p.Fault, api.NoFault, api.Arbitrary):
		return api.ErrArg
	case len(p.States) == 0:
		return api.ErrArg
	case hasTooMany(p):
		return api.ErrLarge
	case !areNames(p.States, p.Messages, p.Values):
		return api.ErrName
	case p.Topology != api.Clique && hasCliqueParts(p), p.Topology == api.Clique && len(p.Leader) > 0:
		return api.ErrArg
	case slices.ContainsFunc(p.Resilience, isLarge):
		return api.ErrLarge
	}
	if e := cmp.Or(someSetError(p.Initial, len(p.States)), setError(p.Leader, len(p.States))); e != api.OK {
		return e
	}
	for i := range p.Rules {
		if e := ruleError(p, i); e != api.OK {
			return e
		}
	}
	if len(differentGuards(p.Rules)) > api.MaxThresholds {
		return api.ErrLarge
	}
	return api.OK
}

func hasTooMany(p api.Protocol) bool {
	return len(p.States) > api.MaxStates || len(p.Messages) > api.MaxMessages || len(p.Values) > api.MaxValues || len(p.Resilience) > api.MaxConditions || len(p.Rules) > api.MaxRules
}

// areNames reports whether the lists together have only valid names, each once.
func areNames(lists ...[]string) bool {
	all := slices.Concat(lists...)
	for i, s := range all {
		if !ValidName(s) || slices.Contains(all[:i], s) {
			return false
		}
	}
	return true
}

func hasCliqueParts(p api.Protocol) bool {
	return len(p.Messages) > 0 || len(p.Values) > 0 || len(p.Resilience) > 0 || p.Fault != api.NoFault
}

// isLarge reports whether a number of l is beyond MaxFactor.
func isLarge(l api.Linear) bool {
	return !isFactor(l.C) || !isFactor(l.N) || !isFactor(l.T) || !isFactor(l.F)
}

func isFactor(x int) bool {
	return between(x, -api.MaxFactor, api.MaxFactor)
}

// setError says why list is not a set of indexes below count, if it is not one.
func setError(list []int, count int) api.Errno {
	for _, x := range list {
		if !isIndex(x, count) {
			return api.ErrState
		}
	}
	for i := 1; i < len(list); i++ {
		if list[i-1] >= list[i] {
			return api.ErrArg
		}
	}
	return api.OK
}

// someSetError is setError for a set that must have an element.
func someSetError(list []int, count int) api.Errno {
	if len(list) == 0 {
		return api.ErrArg
	}
	return setError(list, count)
}

func isIndex(x, count int) bool {
	return between(x, 0, count-1)
}

func between(x, low, high int) bool {
	return x >= low && x <= high
}
