package unfold

import (
	"fmt"
	"reflect"
	"strings"
	"testing"

	"familycheck/api"
	"familycheck/protocol"
)

const (
	minInt = -1 << 63
	maxInt = 1<<63 - 1
)

// The families of the document's examples.
const (
	stText = `protocol st
topology clique
states v0 v1 se ac
messages echo
faults arbitrary
resilience n-3*t-1
resilience t-f
initial v0 v1
rule r1 local v1 se send echo
rule r2 local v0 se when 1*echo >= t+1 send echo
rule r3 local se ac when 1*echo >= n-t
`
	mxText = `protocol mx
topology clique
states i w c
values free held
initial i
rule r1 local i w
rule r2 local w c read free write held
rule r3 local c i read held write free
`
	tokText = `protocol tok
topology ring
states tk no
initial no
leader tk
rule go pass tk no no tk right
`
	infectText = `protocol infect
topology clique
states s i
initial s
rule r1 broadcast s i all i i
`
)

// The families in which the tests look at single kinds of rules.
const (
	flagText = `protocol flag
topology clique
states a b c
messages m k
values lo hi
faults crash
initial a b c
rule one local a b when 2*m >= t+2 when 1*k >= 1 read lo write hi send m k
rule any local b c exists a
rule each local c a forall b c
rule two pair a b c a read hi write lo
rule cast broadcast c a all b c a read lo write hi
`
	lineText = `protocol row
topology line
states a b c
initial a b
leader c
rule mid neighbor a b left c right a
rule top neighbor b c at first
rule end neighbor b c at last left c
rule go pass c a b c right
rule back pass c b a a left
`
	treeText = `protocol oak
topology tree
states a b c
initial a b
leader c
rule up neighbor a b left b right b c
rule top neighbor c a at first
rule leaf neighbor a c at last parent c
rule down pass c a a c child
rule lift pass b a a b parent
`
)

func family(t testing.TB, text string) api.Protocol {
	t.Helper()
	p, e := protocol.Parse(text)
	if e != api.OK {
		t.Fatalf("error %d: %s", e, text)
	}
	return p
}

func property(t testing.TB, p api.Protocol, text string) api.Property {
	t.Helper()
	q, e := protocol.ParseProperty(p, text)
	if e != api.OK {
		t.Fatalf("error %d: %s", e, text)
	}
	return q
}

// plainStart returns a configuration of correct processes without messages.
func plainStart(p api.Protocol, states ...int) api.Config {
	zeros := make([]int, len(p.Messages))
	return api.Config{States: states, Correct: len(states), Sent: zeros, Faulty: append([]int(nil), zeros...)}
}

func alone(rule, process int) api.Step {
	return api.Step{Rule: rule, Process: process, Partner: -1}
}

func with(rule, process, partner int) api.Step {
	return api.Step{Rule: rule, Process: process, Partner: partner}
}

func size(n, t, f int) api.Size { return api.Size{N: n, T: t, F: f} }

// same reports whether two values are equal; a nil slice and an empty one are.
func same(a, b any) bool { return fmt.Sprintf("%T %v", a, a) == fmt.Sprintf("%T %v", b, b) }

// isZero reports whether a result is the zero value of its type, or an empty slice.
func isZero(x any) bool { return same(x, reflect.Zero(reflect.TypeOf(x)).Interface()) }

// apart reports whether no two slices in the values share memory. It writes a different number into each element.
func apart(values ...any) bool {
	written := 0
	var visit func(v reflect.Value, use func(v reflect.Value))
	visit = func(v reflect.Value, use func(v reflect.Value)) {
		switch v.Kind() {
		case reflect.Struct:
			for i := range v.NumField() {
				visit(v.Field(i), use)
			}
		case reflect.Slice:
			for i := range v.Len() {
				visit(v.Index(i), use)
			}
		case reflect.Int:
			if v.CanSet() {
				use(v)
			}
		}
	}
	all := func(use func(v reflect.Value)) {
		written = 0
		for _, x := range values {
			visit(reflect.ValueOf(x), use)
		}
	}
	all(func(v reflect.Value) { written++; v.SetInt(int64(written)) })
	ok := true
	all(func(v reflect.Value) { written++; ok = ok && v.Int() == int64(written) })
	return ok
}

// cloned returns a copy that shares no memory with x.
func cloned[T any](x T) T {
	return copyOf(reflect.ValueOf(x)).Interface().(T)
}

func copyOf(v reflect.Value) reflect.Value {
	c := reflect.New(v.Type()).Elem()
	c.Set(v)
	switch v.Kind() {
	case reflect.Struct:
		for i := range v.NumField() {
			c.Field(i).Set(copyOf(v.Field(i)))
		}
	case reflect.Slice:
		if v.IsNil() {
			return c
		}
		c.Set(reflect.MakeSlice(v.Type(), v.Len(), v.Len()))
		for i := range v.Len() {
			c.Index(i).Set(copyOf(v.Index(i)))
		}
	}
	return c
}

// replaced returns text with the first occurrence of old replaced, which must be there.
func replaced(t testing.TB, text, old, with string) string {
	t.Helper()
	if !strings.Contains(text, old) {
		t.Fatalf("%q is not in %q", old, text)
	}
	return strings.Replace(text, old, with, 1)
}
