package tree

import (
	"slices"

	"familycheck/api"
)

// Post returns the canonical automaton of what one step with the rule leads to from a configuration that a accepts.
func Post(p api.Protocol, rule int, a api.TreeAutomaton) (api.TreeAutomaton, api.Errno) {
	if e := classError(p); e != api.OK {
		return api.TreeAutomaton{}, e
	}
	if !isBelow(rule, len(p.Rules)) {
		return api.TreeAutomaton{}, api.ErrRule
	}
	t, ok := certificate(p, a)
	if !ok {
		return api.TreeAutomaton{}, api.ErrArg
	}
	t, e := stepsFrom(p.Rules[rule:rule+1], t.canonical(), false).canonical(api.MaxAutomaton)
	if e != api.OK {
		return api.TreeAutomaton{}, e
	}
	return t.automaton(), api.OK
}

// change is what a step does to one node.
type change struct {
	before, after int
}

// step says what happens in a step with a rule: at one node, and then at its parent if there are changes for it.
type step struct {
	lower       change
	upper       []change // what is possible at the parent of the lower node; none: nothing is demanded of it
	atRoot      bool     // the lower node is the root
	atLeaf      bool     // the lower node is a leaf
	left, right []int    // states of the children of the lower node; empty: any, also if there is no child
}

// stepOf returns what happens in a step with the rule.
func stepOf(r api.Rule) step {
	self, partner := change{r.From, r.To}, change{r.PartnerFrom, r.PartnerTo}
	if r.Kind == api.Pass {
		if r.Direction == api.ToChild {
			return step{lower: partner, upper: []change{self}}
		}
		return step{lower: self, upper: []change{partner}}
	}
	s := step{lower: self, atRoot: r.At == api.AtFirst, atLeaf: r.At == api.AtLast, left: r.Left, right: r.Right}
	for _, state := range r.Parent {
		s.upper = append(s.upper, change{state, state})
	}
	return s
}

// demands reports whether the children of the lower node have to be in some states.
func (s step) demands() bool { return len(s.left) > 0 || len(s.right) > 0 }

// stepper makes the network of the trees after a step. Its states say what a tree is like, and which state of the table the same tree before the step has.
type stepper struct {
	network
	from  table
	steps []step
	kind  []int // by letter: nodes of the same kind are alike as children of a lower node
	kinds []int // a letter of each kind
}

// stepsFrom returns the network of the trees that one step with one of the rules leads to from the trees of a table, which has at most MaxForward states. With stay, it also has the trees of the table themselves.
func stepsFrom(rules []api.Rule, t table, stay bool) network {
	s := newStepper(rules, t)
	for state, accepts := range t.accept {
		if !accepts {
			continue
		}
		s.addAccept(s.made(state))
		for i, x := range s.steps {
			if x.atRoot && len(x.upper) == 0 {
				s.addAccept(s.begun(i, state))
			}
		}
		for kind := range s.kinds {
			if stay {
				s.addAccept(s.idle(kind, state))
			}
		}
	}
	for letter := range t.leaf {
		s.addLeaves(letter)
		for first := range t.accept {
			for second := range t.accept {
				s.addIdle(letter, first, second)
				s.addMade(letter, first, second)
			}
		}
	}
	return s.network
}

func newStepper(rules []api.Rule, t table) *stepper {
	s := &stepper{from: t}
	for _, r := range rules {
		s.steps = append(s.steps, stepOf(r))
	}
	kind, count := numbered(t.letters(), s.suits)
	s.kind, s.kinds = kind, make([]int, count)
	for letter, i := range kind {
		s.kinds[i] = letter
	}
	s.network = newNetwork(t.letters(), (count+len(rules)+1)*t.states())
	return s
}

// suits says which of the demands of the steps on first and on second children the letter meets.
func (s *stepper) suits(letter int) [api.MaxRules][2]bool {
	var suits [api.MaxRules][2]bool
	for i, x := range s.steps {
		suits[i] = [2]bool{allows(x.left, letter), allows(x.right, letter)}
	}
	return suits
}

// allows reports whether a child may have the letter; an empty list demands nothing.
func allows(states []int, letter int) bool {
	return len(states) == 0 || slices.Contains(states, letter)
}

// idle is the state of trees in which nothing happens and whose root is of a kind.
func (s *stepper) idle(kind, state int) int { return kind*s.from.states() + state }

// begun is the state of trees whose root is the lower node of a step that also depends on what is above it.
func (s *stepper) begun(i, state int) int { return (len(s.kinds)+i)*s.from.states() + state }

// made is the state of trees in which all of a step happens.
func (s *stepper) made(state int) int { return s.begun(len(s.steps), state) }

// lowered is the state of trees whose root is the lower node of a step.
func (s *stepper) lowered(i, state int) int {
	if s.steps[i].atRoot || len(s.steps[i].upper) > 0 {
		return s.begun(i, state)
	}
	return s.made(state)
}

func (s *stepper) addLeaves(letter int) {
	s.addLeaf(letter, s.idle(s.kind[letter], s.from.leaf[letter]))
	for i, x := range s.steps {
		if letter == x.lower.after && !x.demands() {
			s.addLeaf(letter, s.lowered(i, s.from.leaf[x.lower.before]))
		}
	}
}

// addIdle adds the branches in whose children nothing happens.
func (s *stepper) addIdle(letter, first, second int) {
	for j, left := range s.kinds {
		for k, right := range s.kinds {
			a, b := s.idle(j, first), s.idle(k, second)
			s.addBranch(letter, a, b, s.idle(s.kind[letter], s.from.after(letter, first, second)))
			for i, x := range s.steps {
				if letter == x.lower.after && !x.atLeaf && allows(x.left, left) && allows(x.right, right) {
					s.addBranch(letter, a, b, s.lowered(i, s.from.after(x.lower.before, first, second)))
				}
			}
		}
	}
}

// addMade adds the branches in one of whose children something happens. Nothing is above a root.
func (s *stepper) addMade(letter, first, second int) {
	for kind := range s.kinds {
		a, b := s.idle(kind, first), s.idle(kind, second)
		to := s.made(s.from.after(letter, first, second))
		s.addBranch(letter, s.made(first), b, to)
		s.addBranch(letter, a, s.made(second), to)
		for i, x := range s.steps {
			for _, upper := range x.upper {
				if letter == upper.after && !x.atRoot {
					to := s.made(s.from.after(upper.before, first, second))
					s.addBranch(letter, s.begun(i, first), b, to)
					s.addBranch(letter, a, s.begun(i, second), to)
				}
			}
		}
	}
}
