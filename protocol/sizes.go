package protocol

import (
	"cmp"

	"familycheck/api"
)

// Evaluate returns the value of l at s.
func Evaluate(l api.Linear, s api.Size) (int, api.Errno) {
	if isLarge(l) {
		return 0, api.ErrLarge
	}
	if !isParameter(s.N) || !isParameter(s.T) || !isParameter(s.F) {
		return 0, api.ErrSize
	}
	return valueAt(l, s), api.OK
}

// valueAt needs factors and parameters within their limits: then no sum leaves the range of int.
func valueAt(l api.Linear, s api.Size) int {
	return l.C + l.N*s.N + l.T*s.T + l.F*s.F
}

func isParameter(x int) bool {
	return between(x, 0, api.MaxParameter)
}

// Admissible reports whether p is valid and has a system of the size s.
func Admissible(p api.Protocol, s api.Size) bool {
	return Validate(p) == api.OK && admits(p, s)
}

// admits is Admissible for a valid family.
func admits(p api.Protocol, s api.Size) bool {
	switch {
	case !between(s.N, 1, api.MaxParameter) || !between(s.T, 0, s.N) || !between(s.F, 0, s.N):
		return false
	case p.Fault == api.NoFault && (s.T != 0 || s.F != 0):
		return false
	case p.Topology == api.Tree && s.N%2 == 0:
		return false
	}
	for _, l := range p.Resilience {
		if valueAt(l, s) < 0 {
			return false
		}
	}
	return true
}

// Sizes returns the admissible sizes of p with n processes in ascending order.
func Sizes(p api.Protocol, n int) ([]api.Size, api.Errno) {
	if e := Validate(p); e != api.OK {
		return nil, e
	}
	if !between(n, 1, api.MaxProcesses) {
		return nil, api.ErrArg
	}
	var all []api.Size
	for f := range n + 1 {
		for t := range n + 1 {
			if s := (api.Size{N: n, T: t, F: f}); admits(p, s) {
				all = append(all, s)
			}
		}
	}
	return all, api.OK
}

// Compare orders sizes by N, then by F, then by T.
func Compare(a, b api.Size) int {
	return cmp.Or(cmp.Compare(a.N, b.N), cmp.Compare(a.F, b.F), cmp.Compare(a.T, b.T))
}
