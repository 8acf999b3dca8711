package fair

import (
	"fmt"
	"reflect"
	"strings"
	"testing"

	"familycheck/api"
	"familycheck/protocol"
)

const (
	minInt = -1 << 63
	maxInt = 1<<63 - 1
)

const (
	// The family of the document's examples 1 and 3.
	abText = "protocol ab\ntopology clique\nstates a b\ninitial a\nrule x local a b\n"
	// The family of the document's example 2.
	backText = abText + "rule y local b a\n"
	// A family with a shared variable that is needed for its safety.
	mxText = `protocol mx
topology clique
states i w c
values free held
initial i
rule r1 local i w
rule r2 local w c read free write held
rule r3 local c i read held write free
`
	// Each kind of rule and guard, with and without reads and writes.
	kindsText = `protocol kinds
topology clique
states a b c
values lo hi
initial a b
rule move local a b
rule some local b c exists a b read lo write hi
rule each local c a forall a b read hi
rule both local b c exists a forall a c write lo
rule two pair a b c a write lo
rule same pair a b a b read hi
rule cast broadcast c a all b c c write hi
`
	// A family without a shared variable.
	castText = `protocol cast
topology clique
states s i
initial s
rule b broadcast s i all i i
rule p pair i s i s
`
	// As many states and values as there may be.
	fourText = `protocol four
topology clique
states a b c d
values x y z
initial a b c d
rule r local a b write y
`
)

func family(t testing.TB, text string) api.Protocol {
	t.Helper()
	p, e := protocol.Parse(text)
	if e != api.OK {
		t.Fatalf("error %d: %s", e, text)
	}
	return p
}

func property(t testing.TB, p api.Protocol, text string) api.Property {
	t.Helper()
	q, e := protocol.ParseProperty(p, text)
	if e != api.OK {
		t.Fatalf("error %d: %s", e, text)
	}
	return q
}

func element(value int, counts ...int) api.Element {
	return api.Element{Value: value, Counts: counts}
}

func elements(list ...api.Element) []api.Element { return list }

func ints(list ...int) []int { return list }

func lists(list ...[]int) [][]int { return list }

// same reports whether two values are equal; a nil slice and an empty one are.
func same(a, b any) bool { return fmt.Sprintf("%T %v", a, a) == fmt.Sprintf("%T %v", b, b) }

// isZero reports whether a result is the zero value of its type, or an empty slice.
func isZero(x any) bool { return same(x, reflect.Zero(reflect.TypeOf(x)).Interface()) }

// numbers goes through the numbers of a value and what its slices refer to.
func numbers(v reflect.Value, use func(v reflect.Value)) {
	switch v.Kind() {
	case reflect.Struct:
		for i := range v.NumField() {
			numbers(v.Field(i), use)
		}
	case reflect.Slice:
		for i := range v.Len() {
			numbers(v.Index(i), use)
		}
	case reflect.Int:
		if v.CanSet() {
			use(v)
		}
	}
}

// apart reports whether no two slices in the values share memory. It writes a different number into each element.
func apart(values ...any) bool {
	written := 0
	all := func(use func(v reflect.Value)) {
		written = 0
		for _, x := range values {
			numbers(reflect.ValueOf(x), func(v reflect.Value) { written++; use(v) })
		}
	}
	all(func(v reflect.Value) { v.SetInt(int64(written)) })
	ok := true
	all(func(v reflect.Value) { ok = ok && v.Int() == int64(written) })
	return ok
}

// cloned returns a copy that shares no memory with x.
func cloned[T any](x T) T {
	return copyOf(reflect.ValueOf(x)).Interface().(T)
}

func copyOf(v reflect.Value) reflect.Value {
	c := reflect.New(v.Type()).Elem()
	c.Set(v)
	switch v.Kind() {
	case reflect.Struct:
		for i := range v.NumField() {
			c.Field(i).Set(copyOf(v.Field(i)))
		}
	case reflect.Slice:
		if v.IsNil() {
			return c
		}
		c.Set(reflect.MakeSlice(v.Type(), v.Len(), v.Len()))
		for i := range v.Len() {
			c.Index(i).Set(copyOf(v.Index(i)))
		}
	}
	return c
}

// replaced returns text with the first occurrence of old replaced, which must be there.
func replaced(t testing.TB, text, old, with string) string {
	t.Helper()
	if !strings.Contains(text, old) {
		t.Fatalf("%q is not in %q", old, text)
	}
	return strings.Replace(text, old, with, 1)
}
