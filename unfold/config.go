package unfold

import (
	"cmp"
	"slices"

	"familycheck/api"
	"familycheck/protocol"
)

// messages has a number for each message type; those that the family does not have stay 0.
type messages [api.MaxMessages]int

// config is a configuration of a system as a value that can be compared and be the key of a map. States beyond the processes of the system stay 0.
type config struct {
	shape  int // the place in the system's shapes; 0 if it has none
	states [api.MaxProcesses]int
	sent   messages
	faulty messages
	value  int
}

// compare orders the configurations of one system as Compare does.
func (c config) compare(d config) int {
	return cmp.Or(cmp.Compare(c.shape, d.shape), slices.Compare(c.states[:], d.states[:]), slices.Compare(c.sent[:], d.sent[:]),
		slices.Compare(c.faulty[:], d.faulty[:]), cmp.Compare(c.value, d.value))
}

// ValidConfig returns ErrArg if c is not a configuration of the system of size s.
func ValidConfig(p api.Protocol, s api.Size, c api.Config) api.Errno {
	_, _, e := open(p, s, c)
	return e
}

// open returns the system and the configuration that the arguments of a function denote, or the error of ValidConfig.
func open(p api.Protocol, s api.Size, c api.Config) (*system, config, api.Errno) {
	y, e := newSystem(p, s)
	if e != api.OK {
		return nil, config{}, e
	}
	d, ok := y.read(c)
	if !ok {
		return nil, config{}, api.ErrArg
	}
	return y, d, api.OK
}

// read returns a configuration as the package keeps it; false if it is not one of the system.
func (y *system) read(c api.Config) (config, bool) {
	p := y.family
	shape, ok := y.readShape(c.Shape)
	if !ok || len(c.States) != y.count || !areBelow(c.States, len(p.States)) || c.Correct != y.correct {
		return config{}, false
	}
	if len(c.Sent) != len(p.Messages) || !areBelow(c.Sent, api.MaxParameter+1) {
		return config{}, false
	}
	mostFaulty := 0
	if p.Fault == api.Crash || p.Fault == api.Omission {
		mostFaulty = api.MaxParameter
	}
	if len(c.Faulty) != len(p.Messages) || !areBelow(c.Faulty, mostFaulty+1) {
		return config{}, false
	}
	if c.Value < 0 || c.Value >= max(len(p.Values), 1) {
		return config{}, false
	}
	d := config{shape: shape, value: c.Value}
	copy(d.states[:], c.States)
	copy(d.sent[:], c.Sent)
	copy(d.faulty[:], c.Faulty)
	return d, true
}

func (y *system) readShape(shape []int) (int, bool) {
	if y.family.Topology != api.Tree {
		return 0, len(shape) == 0
	}
	i := slices.IndexFunc(y.shapes, func(other []int) bool { return slices.Equal(shape, other) })
	return max(i, 0), i >= 0
}

// areBelow reports whether every number is from 0 to limit - 1.
func areBelow(list []int, limit int) bool {
	return !slices.ContainsFunc(list, func(x int) bool { return x < 0 || x >= limit })
}

// write returns a configuration as api has it.
func (y *system) write(c config) api.Config {
	d := api.Config{
		States:  slices.Clone(c.states[:y.count]),
		Correct: y.correct,
		Sent:    slices.Clone(c.sent[:len(y.family.Messages)]),
		Faulty:  slices.Clone(c.faulty[:len(y.family.Messages)]),
		Value:   c.value,
	}
	if len(y.shapes) > 0 {
		d.Shape = slices.Clone(y.shapes[c.shape])
	}
	return d
}

func (y *system) writeAll(list []config) []api.Config {
	all := make([]api.Config, len(list))
	for i, c := range list {
		all[i] = y.write(c)
	}
	return all
}

// Initial returns all initial configurations in ascending order.
func Initial(p api.Protocol, q api.Property, s api.Size) ([]api.Config, api.Errno) {
	y, e := newSystemFor(p, q, s)
	if e != api.OK {
		return nil, e
	}
	list, e := y.initial(q)
	if e != api.OK {
		return nil, e
	}
	return y.writeAll(list), api.OK
}

func (y *system) initial(q api.Property) ([]config, api.Errno) {
	choices := y.choices(q)
	total := max(len(y.shapes), 1)
	for _, states := range choices {
		total *= len(states)
	}
	if total > api.MaxConfigs {
		return nil, api.ErrLarge
	}
	var list []config
	for shape := range max(len(y.shapes), 1) {
		list = append(list, config{shape: shape})
	}
	// Each configuration is followed by the choices for one more process, so the order stays ascending.
	for i, states := range choices {
		var longer []config
		for _, c := range list {
			for _, state := range states {
				c.states[i] = state
				longer = append(longer, c)
			}
		}
		list = longer
	}
	return list, api.OK
}

// choices returns the states in which each process may start.
func (y *system) choices(q api.Property) [][]int {
	starts, _ := protocol.Starts(y.family, q)
	all := make([][]int, y.count)
	for i := range all {
		switch {
		case i == 0 && len(y.family.Leader) > 0:
			all[i] = y.family.Leader
		case i < y.correct:
			all[i] = starts
		default:
			all[i] = y.family.Initial
		}
	}
	return all
}

// isInitial needs no list: there may be more initial configurations than Initial returns.
func (y *system) isInitial(q api.Property, c config) bool {
	for i, states := range y.choices(q) {
		if !slices.Contains(states, c.states[i]) {
			return false
		}
	}
	return c.sent == messages{} && c.faulty == messages{} && c.value == 0
}

// Canonical returns c with the states of correct and of faulty processes sorted if the topology is Clique, and c otherwise.
func Canonical(p api.Protocol, c api.Config) (api.Config, api.Errno) {
	if e := protocol.Validate(p); e != api.OK {
		return api.Config{}, e
	}
	if !hasProcesses(p, c) {
		return api.Config{}, api.ErrArg
	}
	c.Shape, c.States = slices.Clone(c.Shape), slices.Clone(c.States)
	c.Sent, c.Faulty = slices.Clone(c.Sent), slices.Clone(c.Faulty)
	sortProcesses(p, c.States, c.Correct)
	return c, api.OK
}

func (y *system) canonical(c config) config {
	sortProcesses(y.family, c.states[:y.count], y.correct)
	return c
}

func sortProcesses(p api.Protocol, states []int, correct int) {
	if p.Topology == api.Clique {
		slices.Sort(states[:correct])
		slices.Sort(states[correct:])
	}
}
