package threshold

import (
	"fmt"
	"reflect"
	"strings"
	"testing"

	"familycheck/api"
	"familycheck/protocol"
)

const (
	minInt = -1 << 63
	maxInt = 1<<63 - 1
)

const (
	// The family of the document's examples 1 to 3.
	stText = `protocol st
topology clique
states v0 v1 se ac
messages echo
faults arbitrary
resilience n-3*t-1
resilience t-f
initial v0 v1
rule r1 local v1 se send echo
rule r2 local v0 se when 1*echo >= t+1 send echo
rule r3 local se ac when 1*echo >= n-t
`
	// Two message types, three thresholds, a rule with two guards, two initial states; the faults are filled in.
	duoText = `protocol duo
topology clique
states a b c d
messages m k
faults crash
resilience n-2*t-1
resilience t-f
initial a b
rule r1 local c d when 2*m >= n-f when 1*k >= t+1
rule r2 local a c send m k
rule r3 local b c when 1*m >= 1 send k
rule r4 local a b
`
	// The family of the shared test crash: its first rule starts in a later state than its second.
	crText = `protocol cr
topology clique
states a b c
messages m
faults crash
resilience n-f-1
initial a
rule r1 local b c when 2*m >= n
rule r2 local a b send m
`
	mxText = `protocol mx
topology clique
states i w c
values free held
initial i
rule r1 local i w
rule r2 local w c read free write held
rule r3 local c i read held write free
`
)

// faultLines are the lines of the kinds of faults, by the kind.
var faultLines = [...]string{"", "faults crash\n", "faults omission\n", "faults arbitrary\n"}

func family(t testing.TB, text string) api.Protocol {
	t.Helper()
	p, e := protocol.Parse(text)
	if e != api.OK {
		t.Fatalf("error %d: %s", e, text)
	}
	return p
}

// duo returns the family duo with a kind of faults.
func duo(t testing.TB, fault int) api.Protocol {
	t.Helper()
	return family(t, replaced(t, duoText, faultLines[api.Crash], faultLines[fault]))
}

func property(t testing.TB, p api.Protocol, text string) api.Property {
	t.Helper()
	q, e := protocol.ParseProperty(p, text)
	if e != api.OK {
		t.Fatalf("error %d: %s", e, text)
	}
	return q
}

func size(n, t, f int) api.Size { return api.Size{N: n, T: t, F: f} }

func step(rule, process int) api.Step {
	return api.Step{Rule: rule, Process: process, Partner: -1}
}

// row returns a row with its constant first.
func row(constant int, coefficients ...int) api.Row {
	return api.Row{Coef: coefficients, Const: constant}
}

// same reports whether two values are equal; a nil slice and an empty one are.
func same(a, b any) bool { return fmt.Sprintf("%T %v", a, a) == fmt.Sprintf("%T %v", b, b) }

// isZero reports whether a result is the zero value of its type, or an empty slice.
func isZero(x any) bool { return same(x, reflect.Zero(reflect.TypeOf(x)).Interface()) }

// numbers goes through the numbers of a value and what its slices refer to.
func numbers(v reflect.Value, use func(v reflect.Value)) {
	switch v.Kind() {
	case reflect.Struct:
		for i := range v.NumField() {
			numbers(v.Field(i), use)
		}
	case reflect.Slice:
		for i := range v.Len() {
			numbers(v.Index(i), use)
		}
	case reflect.Int:
		if v.CanSet() {
			use(v)
		}
	}
}

// apart reports whether no two slices in the values share memory. It writes a different number into each element.
func apart(values ...any) bool {
	written := 0
	all := func(use func(v reflect.Value)) {
		written = 0
		for _, x := range values {
			numbers(reflect.ValueOf(x), func(v reflect.Value) { written++; use(v) })
		}
	}
	all(func(v reflect.Value) { v.SetInt(int64(written)) })
	ok := true
	all(func(v reflect.Value) { ok = ok && v.Int() == int64(written) })
	return ok
}

// cloned returns a copy that shares no memory with x.
func cloned[T any](x T) T {
	return copyOf(reflect.ValueOf(x)).Interface().(T)
}

func copyOf(v reflect.Value) reflect.Value {
	c := reflect.New(v.Type()).Elem()
	c.Set(v)
	switch v.Kind() {
	case reflect.Struct:
		for i := range v.NumField() {
			c.Field(i).Set(copyOf(v.Field(i)))
		}
	case reflect.Slice:
		if v.IsNil() {
			return c
		}
		c.Set(reflect.MakeSlice(v.Type(), v.Len(), v.Len()))
		for i := range v.Len() {
			c.Index(i).Set(copyOf(v.Index(i)))
		}
	}
	return c
}

// changed returns a copy of x that change has changed.
func changed[T any](x T, change func(x *T)) T {
	c := cloned(x)
	change(&c)
	return c
}

// replaced returns text with the first occurrence of old replaced, which must be there.
func replaced(t testing.TB, text, old, with string) string {
	t.Helper()
	if !strings.Contains(text, old) {
		t.Fatalf("%q is not in %q", old, text)
	}
	return strings.Replace(text, old, with, 1)
}
