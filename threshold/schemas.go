package threshold

import (
	"slices"

	"familycheck/api"
)

// Schemas returns all schemas in ascending order.
func Schemas(p api.Protocol, q api.Property) ([][]int, api.Errno) {
	m, e := open(p, q)
	if e != api.OK {
		return nil, e
	}
	return m.schemas(), api.OK
}

// schemas lists a schema before its continuations, and these by their next threshold: this is their ascending order.
func (m *model) schemas() [][]int {
	var all [][]int
	var schema []int
	var visit func()
	visit = func() {
		all = append(all, slices.Clone(schema))
		for next := range m.thresholds {
			if slices.Contains(schema, next) {
				continue
			}
			schema = append(schema, next)
			visit()
			schema = schema[:len(schema)-1]
		}
	}
	visit()
	return all
}

func (m *model) isSchema(list []int) bool {
	for i, x := range list {
		if x < 0 || x >= len(m.thresholds) || slices.Contains(list[:i], x) {
			return false
		}
	}
	return true
}

// Cases returns the number of cases of q.
func Cases(p api.Protocol, q api.Property) (int, api.Errno) {
	if e := Check(p, q); e != api.OK {
		return 0, e
	}
	return countCases(p, q), api.OK
}

func countCases(p api.Protocol, q api.Property) int {
	cases := 1
	if q.Kind == api.Eventually {
		for _, r := range p.Rules {
			cases *= len(r.Guards) + 1
		}
	}
	return cases
}

// Choice returns the choice with that number.
func Choice(p api.Protocol, q api.Property, number int) ([]int, api.Errno) {
	m, e := open(p, q)
	if e != api.OK {
		return nil, e
	}
	if !m.isCase(number) {
		return nil, api.ErrArg
	}
	return m.choice(number), api.OK
}

func (m *model) isCase(number int) bool {
	return number >= 0 && number < countCases(m.family, m.property)
}

// choice reads the number of a case as digits, of which the last rule has the lowest.
func (m *model) choice(number int) []int {
	if m.property.Kind != api.Eventually {
		return nil
	}
	choice := make([]int, len(m.family.Rules))
	for i, r := range slices.Backward(m.family.Rules) {
		base := len(r.Guards) + 1
		choice[i] = number % base
		number /= base
	}
	return choice
}
