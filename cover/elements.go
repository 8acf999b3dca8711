package cover

import (
	"cmp"
	"slices"

	"familycheck/api"
	"familycheck/protocol"
	"familycheck/unfold"
)

// ValidElement returns ErrArg if e is not an element of p.
func ValidElement(p api.Protocol, e api.Element) api.Errno {
	if errno := countedError(p); errno != api.OK {
		return errno
	}
	return elementError(p, e)
}

func elementError(p api.Protocol, e api.Element) api.Errno {
	if len(e.Counts) != len(p.States) || !areCounts(e.Counts) || e.Value < 0 || e.Value >= valueCount(p) {
		return api.ErrArg
	}
	return api.OK
}

func areCounts(list []int) bool {
	return !slices.ContainsFunc(list, func(x int) bool { return x < 0 || x > api.MaxParameter })
}

// Leq reports whether b is in the upward closure of a.
func Leq(a, b api.Element) bool {
	if a.Value != b.Value || len(a.Counts) != len(b.Counts) {
		return false
	}
	for i, count := range a.Counts {
		if count > b.Counts[i] {
			return false
		}
	}
	return true
}

// Compare orders elements by Value and then by Counts.
func Compare(a, b api.Element) int {
	return cmp.Or(cmp.Compare(a.Value, b.Value), slices.Compare(a.Counts, b.Counts))
}

// Total returns the number of processes of e; 0 if no family has such an element.
func Total(e api.Element) int {
	if len(e.Counts) > api.MaxStates || !areCounts(e.Counts) {
		return 0
	}
	total := 0
	for _, count := range e.Counts {
		total += count
	}
	return total
}

// member is an element of a basis during a search.
type member struct {
	api.Element
	explored bool // what leads to it in one step is in the upward closure of the basis
}

func (m member) isAbove(other member) bool {
	return Leq(other.Element, m.Element)
}

func (m member) compare(other member) int {
	return Compare(m.Element, other.Element)
}

func membersOf(list []api.Element) []member {
	all := make([]member, len(list))
	for i, e := range list {
		all[i].Element = e
	}
	return all
}

// elementsOf returns the elements in new memory.
func elementsOf(list []member) []api.Element {
	all := make([]api.Element, len(list))
	for i, m := range list {
		all[i] = api.Element{Value: m.Value, Counts: slices.Clone(m.Counts)}
	}
	return all
}

// minimal returns the minimal members in ascending order; of equal ones it keeps the first. In this order nothing comes before what is below it, so only the ones kept need to be looked at.
func minimal(list []member) []member {
	list = slices.Clone(list)
	slices.SortStableFunc(list, member.compare)
	var kept []member
	for _, m := range list {
		if !slices.ContainsFunc(kept, m.isAbove) {
			kept = append(kept, m)
		}
	}
	return kept
}

// Minimize returns the minimal elements of l, each once, in ascending order.
func Minimize(l []api.Element) []api.Element {
	return elementsOf(minimal(membersOf(l)))
}

// Contains reports whether e is in the upward closure of basis.
func Contains(basis []api.Element, e api.Element) bool {
	return slices.ContainsFunc(basis, func(b api.Element) bool { return Leq(b, e) })
}

// containsAll reports whether the upward closure of basis contains all of list.
func containsAll(basis, list []api.Element) bool {
	for _, e := range list {
		if !Contains(basis, e) {
			return false
		}
	}
	return true
}

// Abstract returns the element of a configuration of any size that has no faults.
func Abstract(p api.Protocol, c api.Config) (api.Element, api.Errno) {
	if errno := countedError(p); errno != api.OK {
		return api.Element{}, errno
	}
	if unfold.ValidConfig(p, api.Size{N: len(c.States)}, c) != api.OK {
		return api.Element{}, api.ErrArg
	}
	e := api.Element{Value: c.Value, Counts: make([]int, len(p.States))}
	for _, state := range c.States {
		e.Counts[state]++
	}
	return e, api.OK
}

// Configuration returns the configuration with the numbers of e whose states are in ascending order.
func Configuration(p api.Protocol, e api.Element) (api.Config, api.Errno) {
	if errno := ValidElement(p, e); errno != api.OK {
		return api.Config{}, errno
	}
	total := Total(e)
	switch {
	case total == 0:
		return api.Config{}, api.ErrArg
	case total > api.MaxProcesses:
		return api.Config{}, api.ErrLarge
	}
	c := api.Config{Correct: total, Value: e.Value}
	for state, count := range e.Counts {
		c.States = append(c.States, slices.Repeat([]int{state}, count)...)
	}
	return c, api.OK
}

// isInitial reports whether the upward closure of e contains an initial configuration with processes in the states starts.
func isInitial(starts []int, e api.Element) bool {
	for state, count := range e.Counts {
		if count > 0 && !slices.Contains(starts, state) {
			return false
		}
	}
	return e.Value == 0
}

// Initial reports whether the upward closure of e contains an initial configuration of the property.
func Initial(p api.Protocol, q api.Property, e api.Element) (bool, api.Errno) {
	if errno := Check(p, q); errno != api.OK {
		return false, errno
	}
	if errno := elementError(p, e); errno != api.OK {
		return false, errno
	}
	starts, _ := protocol.Starts(p, q)
	return isInitial(starts, e), api.OK
}
