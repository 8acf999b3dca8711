package word

import (
	"fmt"
	"reflect"
	"slices"
	"strings"
	"testing"

	"familycheck/api"
	"familycheck/protocol"
)

const (
	minInt = -1 << 63
	maxInt = 1<<63 - 1
)

const (
	// The family of the document's examples 6 and 7.
	tokText = `protocol tok
topology ring
states tk no
initial no
leader tk
rule go pass tk no no tk right
`
	// Each kind of rule of a line.
	lineText = `protocol row
topology line
states a b c
initial a b
rule free neighbor a b
rule head neighbor a c at first
rule headof neighbor b c at first right a
rule tail neighbor b a at last
rule tailof neighbor c a at last left a c
rule lefts neighbor c b left a b
rule both neighbor b c left c right a c
rule swap pass a b b a right
`
	// Each kind of rule of a ring.
	ringText = `protocol round
topology ring
states a b c
initial a b
leader c
rule free neighbor a b
rule lefts neighbor b c left a
rule rights neighbor c a right b c
rule both neighbor b a left b c right a b
rule swap pass a b b a right
rule back pass c b a c left
`
)

func family(t testing.TB, text string) api.Protocol {
	t.Helper()
	p, e := protocol.Parse(text)
	if e != api.OK {
		t.Fatalf("error %d: %s", e, text)
	}
	return p
}

func property(t testing.TB, p api.Protocol, text string) api.Property {
	t.Helper()
	q, e := protocol.ParseProperty(p, text)
	if e != api.OK {
		t.Fatalf("error %d: %s", e, text)
	}
	return q
}

func ints(list ...int) []int { return list }

// word returns the letters of a text, which are digits.
func word(text string) []int {
	var w []int
	for _, x := range text {
		w = append(w, int(x-'0'))
	}
	return w
}

func words(texts ...string) [][]int {
	var list [][]int
	for _, text := range texts {
		list = append(list, word(text))
	}
	return list
}

// chain accepts the one word that repeats the letter 0.
func chain(letters, length int) api.Automaton {
	a := api.Automaton{Letters: letters, States: length + 1, Start: ints(0), Accept: ints(length)}
	for i := range length {
		a.Edges = append(a.Edges, api.Edge{From: i, To: i + 1})
	}
	return a
}

// cycle accepts the words over one letter whose length has a remainder modulo the number of states.
func cycle(states, remainder int) api.Automaton {
	a := api.Automaton{Letters: 1, States: states, Start: ints(0), Accept: ints(remainder)}
	for i := range states {
		a.Edges = append(a.Edges, api.Edge{From: i, To: (i + 1) % states})
	}
	return a
}

// far accepts the words over two letters whose letter number n from the end is 1. It has 2 to the power of n subsets.
func far(n int) api.Automaton {
	a := api.Automaton{Letters: 2, States: n + 1, Start: ints(0), Accept: ints(n), Edges: []api.Edge{{}, {Letter: 1}, {Letter: 1, To: 1}}}
	for i := 1; i < n; i++ {
		a.Edges = append(a.Edges, api.Edge{From: i, To: i + 1}, api.Edge{From: i, Letter: 1, To: i + 1})
	}
	return a
}

// oneOf accepts the given words, which have the same length.
func oneOf(letters int, list ...[]int) api.Automaton {
	a := api.Automaton{Letters: letters}
	for _, w := range list {
		a.Start = append(a.Start, a.States)
		for _, x := range w {
			a.Edges = append(a.Edges, api.Edge{From: a.States, Letter: x, To: a.States + 1})
			a.States++
		}
		a.Accept = append(a.Accept, a.States)
		a.States++
	}
	return a
}

// same reports whether two values are equal; a nil slice and an empty one are.
func same(a, b any) bool { return fmt.Sprintf("%T %v", a, a) == fmt.Sprintf("%T %v", b, b) }

// isZero reports whether a result is the zero value of its type, or an empty slice.
func isZero(x any) bool { return same(x, reflect.Zero(reflect.TypeOf(x)).Interface()) }

// numbers goes through the numbers of a value and what its slices refer to.
func numbers(v reflect.Value, use func(v reflect.Value)) {
	switch v.Kind() {
	case reflect.Struct:
		for i := range v.NumField() {
			numbers(v.Field(i), use)
		}
	case reflect.Slice:
		for i := range v.Len() {
			numbers(v.Index(i), use)
		}
	case reflect.Int:
		if v.CanSet() {
			use(v)
		}
	}
}

// apart reports whether no two slices in the values share memory. It writes a different number into each element.
func apart(values ...any) bool {
	written := 0
	all := func(use func(v reflect.Value)) {
		written = 0
		for _, x := range values {
			numbers(reflect.ValueOf(x), func(v reflect.Value) { written++; use(v) })
		}
	}
	all(func(v reflect.Value) { v.SetInt(int64(written)) })
	ok := true
	all(func(v reflect.Value) { ok = ok && v.Int() == int64(written) })
	return ok
}

// cloned returns a copy that shares no memory with x.
func cloned[T any](x T) T {
	return copyOf(reflect.ValueOf(x)).Interface().(T)
}

func copyOf(v reflect.Value) reflect.Value {
	c := reflect.New(v.Type()).Elem()
	c.Set(v)
	switch v.Kind() {
	case reflect.Struct:
		for i := range v.NumField() {
			c.Field(i).Set(copyOf(v.Field(i)))
		}
	case reflect.Slice:
		if v.IsNil() {
			return c
		}
		c.Set(reflect.MakeSlice(v.Type(), v.Len(), v.Len()))
		for i := range v.Len() {
			c.Index(i).Set(copyOf(v.Index(i)))
		}
	}
	return c
}

// replaced returns text with the first occurrence of old replaced, which must be there.
func replaced(t testing.TB, text, old, with string) string {
	t.Helper()
	if !strings.Contains(text, old) {
		t.Fatalf("%q is not in %q", old, text)
	}
	return strings.Replace(text, old, with, 1)
}

// accepted wants an automaton without an error and returns it.
func accepted(t testing.TB) func(a api.Automaton, e api.Errno) api.Automaton {
	return func(a api.Automaton, e api.Errno) api.Automaton {
		t.Helper()
		if e != api.OK {
			t.Fatalf("error %d", e)
		}
		return a
	}
}

// related wants a transducer without an error and returns it.
func related(t testing.TB) func(x api.Transducer, e api.Errno) api.Transducer {
	return func(x api.Transducer, e api.Errno) api.Transducer {
		t.Helper()
		if e != api.OK {
			t.Fatalf("error %d", e)
		}
		return x
	}
}

// doubled returns an automaton with each element of its lists twice.
func doubled(a api.Automaton) api.Automaton {
	a.Start, a.Accept, a.Edges = slices.Repeat(a.Start, 2), slices.Repeat(a.Accept, 2), slices.Repeat(a.Edges, 2)
	return a
}
