package threshold

import (
	"cmp"
	"slices"

	"familycheck/api"
	"familycheck/protocol"
	"familycheck/unfold"
)

// Order returns the rules in an order in which all that lead to a state come before all that leave it.
func Order(p api.Protocol, q api.Property) ([]int, api.Errno) {
	if e := Check(p, q); e != api.OK {
		return nil, e
	}
	return orderOf(p.Rules), api.OK
}

func orderOf(rules []api.Rule) []int {
	order := make([]int, len(rules))
	for i := range order {
		order[i] = i
	}
	slices.SortStableFunc(order, func(a, b int) int { return cmp.Compare(rules[a].From, rules[b].From) })
	return order
}

// Unlocked returns the numbers of the thresholds that hold in c, in ascending order.
func Unlocked(p api.Protocol, s api.Size, c api.Config) ([]int, api.Errno) {
	if e := configError(p, s, c); e != api.OK {
		return nil, e
	}
	thresholds, _ := protocol.Thresholds(p)
	var all []int
	for i, guard := range thresholds {
		bound, _ := protocol.Evaluate(guard.Bound, s)
		if guard.Coef*heard(p, s, c, guard.Message) >= bound {
			all = append(all, i)
		}
	}
	return all, api.OK
}

// heard returns how many messages of a type may count for a guard.
func heard(p api.Protocol, s api.Size, c api.Config, message int) int {
	switch p.Fault {
	case api.Crash, api.Omission:
		return c.Sent[message] + c.Faulty[message]
	case api.Arbitrary:
		return c.Sent[message] + s.F
	}
	return c.Sent[message]
}

// Stopped reports whether a run may end in c.
func Stopped(p api.Protocol, s api.Size, c api.Config) (bool, api.Errno) {
	if e := configError(p, s, c); e != api.OK {
		return false, e
	}
	for rule := range p.Rules {
		for process := range c.States {
			if forced, _ := unfold.Forced(p, s, c, rule, process); forced {
				return false, api.OK
			}
		}
	}
	return true, api.OK
}

// Accelerate lets so many correct and then so many faulty processes take a rule.
func Accelerate(p api.Protocol, s api.Size, c api.Config, rule, correct, faulty int) (api.Config, []api.Step, api.Errno) {
	if e := configError(p, s, c); e != api.OK {
		return api.Config{}, nil, e
	}
	if rule < 0 || rule >= len(p.Rules) {
		return api.Config{}, nil, api.ErrRule
	}
	if !isCount(correct) || !isCount(faulty) {
		return api.Config{}, nil, api.ErrArg
	}
	c = cloneConfig(c)
	var steps []api.Step
	for done := range correct + faulty {
		first, end := 0, c.Correct
		if done >= correct {
			first, end = c.Correct, len(c.States)
		}
		i := slices.Index(c.States[first:end], p.Rules[rule].From)
		if i < 0 {
			return api.Config{}, nil, api.ErrStep
		}
		x := api.Step{Rule: rule, Process: first + i, Partner: -1}
		next, e := unfold.Apply(p, s, c, x)
		if e != api.OK {
			return api.Config{}, nil, e
		}
		c = next
		steps = append(steps, x)
	}
	return c, steps, api.OK
}

func isCount(x int) bool {
	return x >= 0 && x <= api.MaxProcesses
}

func cloneConfig(c api.Config) api.Config {
	c.Shape, c.States = slices.Clone(c.Shape), slices.Clone(c.States)
	c.Sent, c.Faulty = slices.Clone(c.Sent), slices.Clone(c.Faulty)
	return c
}
