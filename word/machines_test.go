package word

import (
	"testing"

	"familycheck/api"
)

// P6.1: each error of an automaton, and the limits.
func TestValidate(t *testing.T) {
	for i, x := range []struct {
		change func(a *api.Automaton)
		want   api.Errno
	}{
		{func(a *api.Automaton) {}, api.OK},
		{func(a *api.Automaton) { a.Letters = 0 }, api.ErrArg},
		{func(a *api.Automaton) { a.Letters = -1 }, api.ErrArg},
		{func(a *api.Automaton) { a.Letters = 1 }, api.ErrArg}, // the edges have the letter 1
		{func(a *api.Automaton) { a.Letters, a.Edges = 1, nil }, api.OK},
		{func(a *api.Automaton) { a.Letters = api.MaxLetters }, api.OK},
		{func(a *api.Automaton) { a.Letters = api.MaxLetters + 1 }, api.ErrArg},
		{func(a *api.Automaton) { a.Letters = maxInt }, api.ErrArg},
		{func(a *api.Automaton) { a.States = -1 }, api.ErrArg},
		{func(a *api.Automaton) { a.States = minInt }, api.ErrArg},
		{func(a *api.Automaton) { a.States = 0 }, api.ErrArg},
		{func(a *api.Automaton) { *a = api.Automaton{Letters: 1} }, api.OK},
		{func(a *api.Automaton) { *a = api.Automaton{Letters: 1, States: -1} }, api.ErrArg},
		{func(a *api.Automaton) { a.States = api.MaxMachine }, api.OK},
		{func(a *api.Automaton) { a.States = api.MaxMachine + 1 }, api.ErrArg},
		{func(a *api.Automaton) { a.Start = nil }, api.OK},
		{func(a *api.Automaton) { a.Start = ints(8, 0, 8) }, api.OK},
		{func(a *api.Automaton) { a.Start = ints(0, 9) }, api.ErrArg},
		{func(a *api.Automaton) { a.Start = ints(0, -1) }, api.ErrArg},
		{func(a *api.Automaton) { a.Accept = nil }, api.OK},
		{func(a *api.Automaton) { a.Accept = ints(8, 8, 1) }, api.OK},
		{func(a *api.Automaton) { a.Accept = ints(8, 9) }, api.ErrArg},
		{func(a *api.Automaton) { a.Accept = ints(minInt) }, api.ErrArg},
		{func(a *api.Automaton) { a.Edges = nil }, api.OK},
		{func(a *api.Automaton) { a.Edges[3].From = 9 }, api.ErrArg},
		{func(a *api.Automaton) { a.Edges[3].From = -1 }, api.ErrArg},
		{func(a *api.Automaton) { a.Edges[3].To = 9 }, api.ErrArg},
		{func(a *api.Automaton) { a.Edges[3].To = -1 }, api.ErrArg},
		{func(a *api.Automaton) { a.Edges[3].Letter = 2 }, api.ErrArg},
		{func(a *api.Automaton) { a.Edges[3].Letter = -1 }, api.ErrArg},
		{func(a *api.Automaton) { a.Edges[len(a.Edges)-1].To = maxInt }, api.ErrArg},
		{func(a *api.Automaton) { *a = doubled(*a) }, api.OK},
	} {
		a := far(8)
		x.change(&a)
		if e := Validate(a); e != x.want {
			t.Errorf("%d: error %d, not %d", i, e, x.want)
		}
	}
}

// P6.6: each error of a transducer, and the limits.
func TestValidateTransducer(t *testing.T) {
	for i, x := range []struct {
		change func(t *api.Transducer)
		want   api.Errno
	}{
		{func(t *api.Transducer) {}, api.OK},
		{func(t *api.Transducer) { t.Letters = 0 }, api.ErrArg},
		{func(t *api.Transducer) { t.Letters = 1 }, api.ErrArg},
		{func(t *api.Transducer) { t.Letters = minInt }, api.ErrArg},
		{func(t *api.Transducer) { t.Letters = api.MaxLetters }, api.OK},
		{func(t *api.Transducer) { t.Letters = api.MaxLetters + 1 }, api.ErrArg},
		{func(t *api.Transducer) { t.States = -1 }, api.ErrArg},
		{func(t *api.Transducer) { *t = api.Transducer{Letters: 1} }, api.OK},
		{func(t *api.Transducer) { *t = api.Transducer{Letters: 1, States: -1} }, api.ErrArg},
		{func(t *api.Transducer) { t.States = api.MaxMachine }, api.OK},
		{func(t *api.Transducer) { t.States = api.MaxMachine + 1 }, api.ErrArg},
		{func(t *api.Transducer) { t.States = maxInt }, api.ErrArg},
		{func(t *api.Transducer) { t.Start, t.Accept, t.Moves = nil, nil, nil }, api.OK},
		{func(t *api.Transducer) { t.Start = ints(1, 0, 1) }, api.OK},
		{func(t *api.Transducer) { t.Start = ints(0, 2) }, api.ErrArg},
		{func(t *api.Transducer) { t.Start = ints(-1) }, api.ErrArg},
		{func(t *api.Transducer) { t.Accept = ints(0, 2) }, api.ErrArg},
		{func(t *api.Transducer) { t.Accept = ints(-1) }, api.ErrArg},
		{func(t *api.Transducer) { t.Moves[1].From = 2 }, api.ErrArg},
		{func(t *api.Transducer) { t.Moves[1].From = -1 }, api.ErrArg},
		{func(t *api.Transducer) { t.Moves[1].To = 2 }, api.ErrArg},
		{func(t *api.Transducer) { t.Moves[1].To = minInt }, api.ErrArg},
		{func(t *api.Transducer) { t.Moves[1].In = 2 }, api.ErrArg},
		{func(t *api.Transducer) { t.Moves[1].In = -1 }, api.ErrArg},
		{func(t *api.Transducer) { t.Moves[1].Out = 2 }, api.ErrArg},
		{func(t *api.Transducer) { t.Moves[1].Out = -1 }, api.ErrArg},
		{func(t *api.Transducer) { t.Moves[0].In, t.Moves[0].Out = -1, 2 }, api.ErrArg}, // together they would be another move
		{func(t *api.Transducer) { t.Moves[2].Out = maxInt }, api.ErrArg},
	} {
		a := later()
		x.change(&a)
		if e := ValidateTransducer(a); e != x.want {
			t.Errorf("%d: error %d, not %d", i, e, x.want)
		}
	}
}

// later relates words over two letters to those in which one 0 has become 1.
func later() api.Transducer {
	return api.Transducer{Letters: 2, States: 2, Start: ints(0), Accept: ints(1), Moves: []api.Move{
		{}, {In: 1, Out: 1}, {Out: 1, To: 1}, {From: 1, To: 1}, {From: 1, In: 1, Out: 1, To: 1}}}
}

// P6.1, P6.6: automata and transducers are compared by their letters after each of them has been examined.
func TestLetters(t *testing.T) {
	a, b := chain(2, 1), chain(3, 1)
	for i, e := range []api.Errno{
		second(Union(a, b)), second(Union(b, a)), second(Intersect(a, b)), second(Same(a, b)),
		second(Compose(later(), api.Transducer{Letters: 3})), second(Image(later(), b)),
		second(Union(far(9), b)), second(Union(b, far(9))), second(Image(api.Transducer{Letters: 2, States: 400}, api.Automaton{Letters: 3, States: 400})),
		second(Compose(api.Transducer{Letters: 2, States: 400}, api.Transducer{Letters: 3, States: 400})),
	} {
		if e != api.ErrArg {
			t.Errorf("%d: error %d", i, e)
		}
	}
	if yes, w, e := Included(a, b); yes || w != nil || e != api.ErrArg {
		t.Error(yes, w, e)
	}
	if yes, w, e := Included(far(9), b); yes || w != nil || e != api.ErrArg {
		t.Error(yes, w, e)
	}
}

func second[T any](x T, e api.Errno) api.Errno { return e }
