package fair

import (
	"slices"

	"familycheck/api"
	"familycheck/cover"
)

// Reach returns the abstract states that can be met from the initial ones before the goal, in ascending order: see P9.4.
func Reach(p api.Protocol, q api.Property) ([]api.Element, api.Errno) {
	if errno := Check(p, q); errno != api.OK {
		return nil, errno
	}
	return reach(p, q), api.OK
}

func reach(p api.Protocol, q api.Property) []api.Element {
	var list []api.Element
	work := unreached(q, initial(p, q))
	for len(work) > 0 {
		a := work[len(work)-1]
		work = work[:len(work)-1]
		i, found := position(list, a)
		if found {
			continue
		}
		list = slices.Insert(list, i, a)
		for _, r := range p.Rules {
			work = append(work, unreached(q, after(r, a))...)
		}
	}
	return list
}

// unreached returns those of the abstract states that are not reached. For a Never property these are all, since every abstract state has a process and no state is a goal.
func unreached(q api.Property, list []api.Element) []api.Element {
	return slices.DeleteFunc(list, func(a api.Element) bool { return isWithin(a.Counts, q.Goal) })
}

// position returns where a is in an ascending list, or would be, and whether it is there.
func position(list []api.Element, a api.Element) (int, bool) {
	return slices.BinarySearchFunc(list, a, cover.Compare)
}

// Safe reports whether no state of Reach represents a bad configuration.
func Safe(p api.Protocol, q api.Property) (bool, api.Errno) {
	if errno := kindError(p, q, api.Never); errno != api.OK {
		return false, errno
	}
	return !slices.ContainsFunc(reach(p, q), func(a api.Element) bool { return mayBeBad(q, a) }), api.OK
}

// mayBeBad reports whether a represents a bad configuration. The counts of the property can all be met at once, since they only ask for more processes.
func mayBeBad(q api.Property, a api.Element) bool {
	for _, c := range q.Bad {
		if !mayMeet(c, a) {
			return false
		}
	}
	return true
}

// mayMeet reports whether a represents a configuration with as many processes as c demands. A count that stands for many stands for as many as one likes.
func mayMeet(c api.Count, a api.Element) bool {
	found := 0
	for _, state := range c.States {
		if a.Counts[state] == many {
			return true
		}
		found += a.Counts[state]
	}
	return found >= c.Least
}
