package unfold

import (
	"slices"

	"familycheck/api"
)

// pairs is a set of pairs of a rule and a process, one bit each: api's limits allow 8 rules and 8 processes.
type pairs uint64

func pairOf(rule, process int) pairs {
	return 1 << (rule*api.MaxProcesses + process)
}

// forcedPairs returns the pairs that are forced in c.
func (y *system) forcedPairs(c config) pairs {
	certain := y.certain(c)
	var all pairs
	for rule := range y.family.Rules {
		for process := range y.correct {
			if y.forced(c, rule, process, certain) {
				all |= pairOf(rule, process)
			}
		}
	}
	return all
}

func (y *system) isReached(q api.Property, c config) bool {
	return isReached(q, c.states[:y.correct])
}

// IsLasso reports whether l is a weakly fair run of the system from an initial configuration that avoids the goal.
func IsLasso(p api.Protocol, q api.Property, s api.Size, l api.Lasso) bool {
	y, e := newSystemFor(p, q, s)
	if e != api.OK || q.Kind != api.Eventually {
		return false
	}
	c, ok := y.read(l.Start)
	if !ok || !y.isInitial(q, c) || y.isReached(q, c) {
		return false
	}
	for _, x := range l.Prefix {
		if c, e = y.apply(c, x); e != api.OK || y.isReached(q, c) {
			return false
		}
	}
	end := c
	starved := y.forcedPairs(c)
	var taken pairs
	for _, x := range l.Loop {
		if c, e = y.apply(c, x); e != api.OK || y.isReached(q, c) {
			return false
		}
		starved &= y.forcedPairs(c)
		taken |= pairOf(x.Rule, x.Process)
	}
	return c == end && starved&^taken == 0
}

// FairLasso returns a violation of the Eventually property q; false if there is none.
func FairLasso(p api.Protocol, q api.Property, s api.Size) (api.Lasso, bool, api.Errno) {
	y, e := newSystemFor(p, q, s)
	if e != api.OK {
		return api.Lasso{}, false, e
	}
	if q.Kind != api.Eventually {
		return api.Lasso{}, false, api.ErrClass
	}
	starts, e := y.initial(q)
	if e != api.OK {
		return api.Lasso{}, false, e
	}
	if _, e := y.explore(starts, itself, keepAll); e != api.OK {
		return api.Lasso{}, false, e
	}
	// These are some of the configurations just found, so they are not too many.
	w, _ := y.explore(starts, itself, func(c config) bool { return !y.isReached(q, c) })
	g := y.graphOf(w)
	end := slices.IndexFunc(g.part, func(part int) bool { return g.starved[part] == 0 })
	if end < 0 {
		return api.Lasso{}, false, api.OK
	}
	path := w.path(end)
	return api.Lasso{Start: y.write(path[0]), Prefix: y.stepsAlong(path, itself), Loop: g.loop(end)}, true, api.OK
}

// SmallestLasso returns the first size with at most so many processes at which q is violated, and a violation there; false if there is none.
func SmallestLasso(p api.Protocol, q api.Property, most int) (api.Size, api.Lasso, bool, api.Errno) {
	return smallest(p, q, most, api.Eventually, FairLasso)
}
