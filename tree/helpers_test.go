package tree

import (
	"fmt"
	"reflect"
	"slices"
	"strings"
	"testing"

	"familycheck/api"
	"familycheck/protocol"
)

const (
	minInt = -1 << 63
	maxInt = 1<<63 - 1
)

const (
	// A token that goes down and up in a tree.
	tokenText = `protocol token
topology tree
states tk no
initial no
leader tk
rule down pass tk no no tk child
rule back pass tk no no tk parent
`
	// The family of the document's example 1.
	firstText = `protocol ex
topology tree
states zero one
initial zero one
rule up neighbor zero one left one
`
	// Each kind of rule of a tree.
	treeText = `protocol every
topology tree
states a b c
initial a b
leader b c
rule free neighbor a b
rule top neighbor b c at first right a b
rule low neighbor b a at last parent a c
rule lefts neighbor c b left a b
rule both neighbor b c left c right a c parent b
rule above neighbor c a parent c
rule down pass a b b c child
rule up pass b a c b parent
`
)

func family(t testing.TB, text string) api.Protocol {
	t.Helper()
	p, e := protocol.Parse(text)
	if e != api.OK {
		t.Fatalf("error %d: %s", e, text)
	}
	return p
}

func property(t testing.TB, p api.Protocol, text string) api.Property {
	t.Helper()
	q, e := protocol.ParseProperty(p, text)
	if e != api.OK {
		t.Fatalf("error %d: %s", e, text)
	}
	return q
}

func ints(list ...int) []int { return list }

// treeOf returns the tree of a text: a digit for each node in preorder, and a comma after each leaf.
func treeOf(text string) (shape, labels []int) {
	for i, x := range text {
		switch {
		case x == ',':
			continue
		case i+1 < len(text) && text[i+1] == ',':
			shape = append(shape, 0)
		default:
			shape = append(shape, 2)
		}
		labels = append(labels, int(x-'0'))
	}
	return shape, labels
}

// text returns one text for each tree.
func text(shape, labels []int) string { return fmt.Sprint(shape, labels) }

// comb accepts the one tree over one letter whose inner nodes are one below the other, so many of them, as first children.
func comb(inner int) api.TreeAutomaton {
	a := api.TreeAutomaton{Letters: 1, States: inner + 1, Accept: ints(inner), Leaves: []api.Leaf{{}}}
	for i := range inner {
		a.Branches = append(a.Branches, api.Branch{First: i, To: i + 1})
	}
	return a
}

// cycle accepts the trees over one letter whose number of leaves has a remainder modulo the number of states.
func cycle(states, remainder int) api.TreeAutomaton {
	a := api.TreeAutomaton{Letters: 1, States: states, Accept: ints(remainder), Leaves: []api.Leaf{{To: 1 % states}}}
	for i := range states {
		for j := range states {
			a.Branches = append(a.Branches, api.Branch{First: i, Second: j, To: (i + j) % states})
		}
	}
	return a
}

// far accepts the trees over two letters in which the node number n on the path of first children, from the root on, has the letter 1. It has 2 to the power of n subsets.
func far(n int) api.TreeAutomaton {
	a := api.TreeAutomaton{Letters: 2, States: n + 1, Accept: ints(n), Leaves: []api.Leaf{{}, {Letter: 1}, {Letter: 1, To: 1}}}
	a.Branches = []api.Branch{{}, {Letter: 1}, {Letter: 1, To: 1}}
	for i := 1; i < n; i++ {
		a.Branches = append(a.Branches, api.Branch{First: i, To: i + 1}, api.Branch{Letter: 1, First: i, To: i + 1})
	}
	return a
}

// same reports whether two values are equal; a nil slice and an empty one are.
func same(a, b any) bool { return fmt.Sprintf("%T %v", a, a) == fmt.Sprintf("%T %v", b, b) }

// isZero reports whether a result is the zero value of its type, or an empty slice.
func isZero(x any) bool { return same(x, reflect.Zero(reflect.TypeOf(x)).Interface()) }

// numbers goes through the numbers of a value and what its slices refer to.
func numbers(v reflect.Value, use func(v reflect.Value)) {
	switch v.Kind() {
	case reflect.Struct:
		for i := range v.NumField() {
			numbers(v.Field(i), use)
		}
	case reflect.Slice:
		for i := range v.Len() {
			numbers(v.Index(i), use)
		}
	case reflect.Int:
		if v.CanSet() {
			use(v)
		}
	}
}

// apart reports whether no two slices in the values share memory. It writes a different number into each element.
func apart(values ...any) bool {
	written := 0
	all := func(use func(v reflect.Value)) {
		written = 0
		for _, x := range values {
			numbers(reflect.ValueOf(x), func(v reflect.Value) { written++; use(v) })
		}
	}
	all(func(v reflect.Value) { v.SetInt(int64(written)) })
	ok := true
	all(func(v reflect.Value) { ok = ok && v.Int() == int64(written) })
	return ok
}

// cloned returns a copy that shares no memory with x.
func cloned[T any](x T) T {
	return copyOf(reflect.ValueOf(x)).Interface().(T)
}

func copyOf(v reflect.Value) reflect.Value {
	c := reflect.New(v.Type()).Elem()
	c.Set(v)
	switch v.Kind() {
	case reflect.Struct:
		for i := range v.NumField() {
			c.Field(i).Set(copyOf(v.Field(i)))
		}
	case reflect.Slice:
		if v.IsNil() {
			return c
		}
		c.Set(reflect.MakeSlice(v.Type(), v.Len(), v.Len()))
		for i := range v.Len() {
			c.Index(i).Set(copyOf(v.Index(i)))
		}
	}
	return c
}

// replaced returns text with the first occurrence of old replaced, which must be there.
func replaced(t testing.TB, text, old, with string) string {
	t.Helper()
	if !strings.Contains(text, old) {
		t.Fatalf("%q is not in %q", old, text)
	}
	return strings.Replace(text, old, with, 1)
}

// accepted wants an automaton without an error and returns it.
func accepted(t testing.TB) func(a api.TreeAutomaton, e api.Errno) api.TreeAutomaton {
	return func(a api.TreeAutomaton, e api.Errno) api.TreeAutomaton {
		t.Helper()
		if e != api.OK {
			t.Fatalf("error %d", e)
		}
		return a
	}
}

// doubled returns an automaton with each element of its lists twice.
func doubled(a api.TreeAutomaton) api.TreeAutomaton {
	a.Accept, a.Leaves, a.Branches = slices.Repeat(a.Accept, 2), slices.Repeat(a.Leaves, 2), slices.Repeat(a.Branches, 2)
	return a
}
