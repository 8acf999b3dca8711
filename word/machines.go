package word

import (
	"iter"
	"slices"

	"familycheck/api"
)

// machine is an automaton or a transducer.
type machine interface {
	// size returns how many letters an arc may read, how many it may write, and how many states there are.
	size() (inputs, outputs, states int)
	ends() (start, accept []int)
}

type reader api.Automaton

type rewriter api.Transducer

func (a reader) size() (inputs, outputs, states int) { return a.Letters, 1, a.States }

func (a reader) ends() (start, accept []int) { return a.Start, a.Accept }

func (t rewriter) size() (inputs, outputs, states int) { return t.Letters, t.Letters, t.States }

func (t rewriter) ends() (start, accept []int) { return t.Start, t.Accept }

// arc is an edge or a move. An edge writes nothing: the only letter that it may write is 0.
type arc struct {
	from, in, out, to int
}

// arcs goes over the edges of an automaton or the moves of a transducer.
func arcs(m machine) iter.Seq[arc] {
	return func(yield func(arc) bool) {
		switch x := m.(type) {
		case reader:
			for _, e := range x.Edges {
				if !yield(arc{e.From, e.Letter, 0, e.To}) {
					return
				}
			}
		case rewriter:
			for _, move := range x.Moves {
				if !yield(arc{move.From, move.In, move.Out, move.To}) {
					return
				}
			}
		}
	}
}

// Validate returns ErrArg if a is no automaton: see P6.1.
func Validate(a api.Automaton) api.Errno {
	return machinesError(reader(a))
}

// ValidateTransducer returns ErrArg if t is no transducer: see P6.6.
func ValidateTransducer(t api.Transducer) api.Errno {
	return machinesError(rewriter(t))
}

// machinesError returns ErrArg if one of the machines is not valid or they do not have the same letters.
func machinesError(list ...machine) api.Errno {
	first, _, _ := list[0].size()
	for _, m := range list {
		if letters, _, _ := m.size(); !isValid(m) || letters != first {
			return api.ErrArg
		}
	}
	return api.OK
}

func isValid(m machine) bool {
	inputs, outputs, states := m.size()
	if inputs < 1 || inputs > api.MaxLetters || states < 0 || states > api.MaxMachine {
		return false
	}
	start, accept := m.ends()
	if !areBelow(start, states) || !areBelow(accept, states) {
		return false
	}
	for x := range arcs(m) {
		if !isBelow(x.from, states) || !isBelow(x.in, inputs) || !isBelow(x.out, outputs) || !isBelow(x.to, states) {
			return false
		}
	}
	return true
}

func isBelow(x, limit int) bool { return x >= 0 && x < limit }

func areBelow(list []int, limit int) bool {
	return !slices.ContainsFunc(list, func(x int) bool { return !isBelow(x, limit) })
}

// network is a machine laid out for searches. The label of an edge is its letter; that of a move has both of its letters.
type network struct {
	labels, states int
	start, accept  set
	next           []set // by state and label
}

func newNetwork(labels, states int) network {
	n := network{labels: labels, states: states, start: newSet(states), accept: newSet(states), next: make([]set, labels*states)}
	width := setWidth(states)
	all := make(set, len(n.next)*width)
	for i := range n.next {
		n.next[i] = all[i*width : (i+1)*width]
	}
	return n
}

// networkOf lays out a valid machine.
func networkOf(m machine) network {
	inputs, outputs, states := m.size()
	n := newNetwork(inputs*outputs, states)
	start, accept := m.ends()
	for _, i := range start {
		n.start.add(i)
	}
	for _, i := range accept {
		n.accept.add(i)
	}
	for x := range arcs(m) {
		n.to(x.from, x.in*outputs+x.out).add(x.to)
	}
	return n
}

// to returns the states that a label leads to from one state.
func (n network) to(state, label int) set {
	return n.next[state*n.labels+label]
}

// after returns the states that a label leads to from the states of s.
func (n network) after(s set, label int) set {
	next := newSet(n.states)
	for state := range s.members() {
		next.addAll(n.to(state, label))
	}
	return next
}

// accepts reports whether the labels lead from the start to acceptance.
func (n network) accepts(labels []int) bool {
	s := n.start
	for _, label := range labels {
		s = n.after(s, label)
	}
	return s.meets(n.accept)
}
