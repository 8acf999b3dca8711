package unfold

import (
	"iter"
	"slices"

	"familycheck/api"
)

// Enabled reports whether the step x is enabled in c.
func Enabled(p api.Protocol, s api.Size, c api.Config, x api.Step) (bool, api.Errno) {
	y, d, e := open(p, s, c)
	if e != api.OK {
		return false, e
	}
	return y.enabled(d, x, y.heard(d)), api.OK
}

// Forced reports whether a correct process has to take the rule if nothing changes.
func Forced(p api.Protocol, s api.Size, c api.Config, rule, process int) (bool, api.Errno) {
	y, d, e := open(p, s, c)
	if e != api.OK {
		return false, e
	}
	return y.forced(d, rule, process, y.certain(d)), api.OK
}

// Apply returns the configuration after the step x.
func Apply(p api.Protocol, s api.Size, c api.Config, x api.Step) (api.Config, api.Errno) {
	y, d, e := open(p, s, c)
	if e != api.OK {
		return api.Config{}, e
	}
	d, e = y.apply(d, x)
	if e != api.OK {
		return api.Config{}, e
	}
	return y.write(d), api.OK
}

// Steps returns the enabled steps in ascending order of rule, process and partner.
func Steps(p api.Protocol, s api.Size, c api.Config) ([]api.Step, api.Errno) {
	y, d, e := open(p, s, c)
	if e != api.OK {
		return nil, e
	}
	return slices.Collect(y.steps(d)), api.OK
}

// steps goes over the enabled steps in ascending order.
func (y *system) steps(c config) iter.Seq[api.Step] {
	return func(yield func(api.Step) bool) {
		heard := y.heard(c)
		for rule := range y.family.Rules {
			for process := range y.count {
				for partner := -1; partner < y.count; partner++ {
					x := api.Step{Rule: rule, Process: process, Partner: partner}
					if y.enabled(c, x, heard) && !yield(x) {
						return
					}
				}
			}
		}
	}
}

// heard returns how many messages of each type may count for a guard.
func (y *system) heard(c config) messages {
	all := c.sent
	for i := range y.family.Messages {
		switch y.family.Fault {
		case api.Crash, api.Omission:
			all[i] += c.faulty[i]
		case api.Arbitrary:
			all[i] += y.size.F
		}
	}
	return all
}

// certain returns how many messages of each type no faulty process can withhold for ever.
func (y *system) certain(c config) messages {
	if y.family.Fault == api.Crash {
		return y.heard(c)
	}
	return c.sent
}

// forced asks for a step of a correct process that is enabled by the messages that are certain.
func (y *system) forced(c config, rule, process int, certain messages) bool {
	if process >= y.correct {
		return false
	}
	for partner := -1; partner < y.count; partner++ {
		if y.enabled(c, api.Step{Rule: rule, Process: process, Partner: partner}, certain) {
			return true
		}
	}
	return false
}

// enabled takes any step; counted has the messages that count for the guards.
func (y *system) enabled(c config, x api.Step, counted messages) bool {
	if x.Rule < 0 || x.Rule >= len(y.family.Rules) || !y.isProcess(x.Process) {
		return false
	}
	r := &y.family.Rules[x.Rule]
	if c.states[x.Process] != r.From || !y.partnerFits(c, r, x) {
		return false
	}
	switch r.Kind {
	case api.Local:
		return y.localHolds(c, x, counted)
	case api.Neighbor:
		return y.neighborHolds(c, x)
	case api.Pass:
		return y.passHolds(c, x)
	}
	return r.Read < 0 || c.value == r.Read
}

func hasPartner(r *api.Rule) bool {
	return r.Kind == api.Pair || r.Kind == api.Pass
}

func (y *system) partnerFits(c config, r *api.Rule, x api.Step) bool {
	if !hasPartner(r) {
		return x.Partner == -1
	}
	return y.isProcess(x.Partner) && x.Partner != x.Process && c.states[x.Partner] == r.PartnerFrom
}

func (y *system) localHolds(c config, x api.Step, counted messages) bool {
	r := &y.family.Rules[x.Rule]
	if r.Read >= 0 && c.value != r.Read {
		return false
	}
	for i, guard := range r.Guards {
		if guard.Coef*counted[guard.Message] < y.bounds[x.Rule][i] {
			return false
		}
	}
	exists := len(r.Exists) == 0
	for i, state := range c.states[:y.count] {
		if i == x.Process {
			continue
		}
		if len(r.Forall) > 0 && !slices.Contains(r.Forall, state) {
			return false
		}
		exists = exists || slices.Contains(r.Exists, state)
	}
	return exists
}

func (y *system) neighborHolds(c config, x api.Step) bool {
	r := &y.family.Rules[x.Rule]
	l := y.links[c.shape][x.Process]
	switch {
	case r.At == api.AtFirst && x.Process != 0:
		return false
	case r.At == api.AtLast && l.second >= 0:
		return false
	}
	return neighborFits(c, l.first, r.Left) && neighborFits(c, l.second, r.Right) && neighborFits(c, l.parent, r.Parent)
}

// neighborFits reports whether the process i (-1: there is none) is as demanded; an empty list demands nothing.
func neighborFits(c config, i int, states []int) bool {
	return len(states) == 0 || i >= 0 && slices.Contains(states, c.states[i])
}

// passHolds needs a partner, which is a process.
func (y *system) passHolds(c config, x api.Step) bool {
	l := y.links[c.shape][x.Process]
	switch y.family.Rules[x.Rule].Direction {
	case api.ToRight:
		return x.Partner == l.second
	case api.ToLeft:
		return x.Partner == l.first
	case api.ToChild:
		return x.Partner == l.first || x.Partner == l.second
	}
	return x.Partner == l.parent
}

// apply takes any step and returns ErrStep or ErrLarge as Apply does.
func (y *system) apply(c config, x api.Step) (config, api.Errno) {
	if !y.enabled(c, x, y.heard(c)) {
		return config{}, api.ErrStep
	}
	c = y.after(c, x)
	if !areBelow(c.sent[:], api.MaxParameter+1) || !areBelow(c.faulty[:], api.MaxParameter+1) {
		return config{}, api.ErrLarge
	}
	return c, api.OK
}

// after returns the configuration after an enabled step. Only Local rules of a valid family send, and those without a shared variable write nothing.
func (y *system) after(c config, x api.Step) config {
	r := &y.family.Rules[x.Rule]
	if r.Kind == api.Broadcast {
		for i, state := range c.states[:y.count] {
			c.states[i] = r.Response[state]
		}
	}
	c.states[x.Process] = r.To
	if hasPartner(r) {
		c.states[x.Partner] = r.PartnerTo
	}
	for _, message := range r.Send {
		if x.Process < y.correct {
			c.sent[message]++
		} else {
			c.faulty[message]++
		}
	}
	if r.Write >= 0 {
		c.value = r.Write
	}
	return c
}
