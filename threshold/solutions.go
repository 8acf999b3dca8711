package threshold

import (
	"slices"

	"familycheck/api"
	"familycheck/linear"
	"familycheck/unfold"
)

// Concretize returns the size and the run that a solution of a system describes.
func Concretize(p api.Protocol, q api.Property, schema []int, number int, point []int) (api.Size, api.Run, api.Errno) {
	l, e := openCase(p, q, schema, number)
	if e != api.OK {
		return api.Size{}, api.Run{}, e
	}
	if !linear.Satisfies(l.system(number), point) {
		return api.Size{}, api.Run{}, api.ErrArg
	}
	s := api.Size{N: point[ParamN], T: point[ParamT], F: point[ParamF]}
	if s.N > api.MaxProcesses {
		return api.Size{}, api.Run{}, api.ErrLarge
	}
	c := l.startOf(s, point)
	r := api.Run{Start: c}
	order := orderOf(p.Rules)
	for segment := range l.segments() {
		for _, rule := range order {
			correct, faulty := l.valueOf(point, CorrectFire, segment, rule), l.valueOf(point, FaultyFire, segment, rule)
			next, steps, e := Accelerate(p, s, c, rule, correct, faulty)
			if e != api.OK {
				return api.Size{}, api.Run{}, e
			}
			c = next
			r.Steps = append(r.Steps, steps...)
		}
	}
	return s, r, api.OK
}

// startOf returns the configuration in which the run of a solution starts.
func (l *layout) startOf(s api.Size, point []int) api.Config {
	messages := len(l.family.Messages)
	c := api.Config{Correct: s.N - s.F, Sent: make([]int, messages), Faulty: make([]int, messages)}
	for _, x := range l.sides {
		for _, state := range x.states {
			c.States = append(c.States, slices.Repeat([]int{state}, l.valueOf(point, x.start, 0, state))...)
		}
	}
	return c
}

// valueOf returns the coordinate of a variable; 0 if the schema does not have it.
func (l *layout) valueOf(point []int, kind, segment, index int) int {
	if v, ok := l.find(kind, segment, index); ok {
		return point[v]
	}
	return 0
}

// Project returns the schema and the point of a run.
func Project(p api.Protocol, q api.Property, s api.Size, r api.Run) ([]int, []int, api.Errno) {
	m, e := openAt(p, q, s)
	if e != api.OK {
		return nil, nil, e
	}
	configs, e := unfold.Replay(p, s, r)
	if e != api.OK || !m.isInitial(r.Start) {
		return nil, nil, api.ErrRun
	}
	schema, unlocked := m.progress(s, configs)
	l := m.layoutOf(schema)
	point := make([]int, len(l.variables))
	point[ParamN], point[ParamT], point[ParamF] = s.N, s.T, s.F
	count := func(kind, segment, index int) {
		if v, ok := l.find(kind, segment, index); ok {
			point[v]++
		}
	}
	for process, state := range r.Start.States {
		count(m.sideOf(r.Start, process).start, 0, state)
	}
	for i, x := range r.Steps {
		count(m.sideOf(r.Start, x.Process).fire, unlocked[i], x.Rule)
	}
	return schema, point, api.OK
}

// isInitial takes a valid configuration. It needs no list of the initial ones: there may be more than unfold.Initial returns.
func (m *model) isInitial(c api.Config) bool {
	for process, state := range c.States {
		if !slices.Contains(m.sideOf(c, process).states, state) {
			return false
		}
	}
	sent := func(x int) bool { return x != 0 }
	return !slices.ContainsFunc(c.Sent, sent) && !slices.ContainsFunc(c.Faulty, sent)
}

// sideOf returns the side of a process of a valid configuration.
func (m *model) sideOf(c api.Config, process int) side {
	if process < c.Correct {
		return m.sides[0]
	}
	return m.sides[1]
}

// progress returns the thresholds in the order in which they begin to hold, and how many hold in each configuration of a run.
func (m *model) progress(s api.Size, configs []api.Config) (schema, unlocked []int) {
	for _, c := range configs {
		holding, _ := Unlocked(m.family, s, c)
		for _, threshold := range holding {
			if !slices.Contains(schema, threshold) {
				schema = append(schema, threshold)
			}
		}
		unlocked = append(unlocked, len(schema))
	}
	return schema, unlocked
}
