package unfold

import (
	"slices"
	"strings"
	"testing"

	"familycheck/api"
	"familycheck/protocol"
)

// withFaults returns the family flag with another kind of faults.
func withFaults(t *testing.T, line string) api.Protocol {
	t.Helper()
	return family(t, strings.Replace(flagText, "faults crash\n", line, 1))
}

func flagStart() api.Config {
	return api.Config{States: []int{0, 1, 2}, Correct: 2, Sent: []int{1, 0}, Faulty: []int{0, 2}, Value: 1}
}

// P3.4
func TestValidConfig(t *testing.T) {
	p, s := family(t, flagText), size(3, 1, 1)
	change := func(f func(c *api.Config)) api.Config {
		c := flagStart()
		f(&c)
		return c
	}
	for i, x := range []struct {
		c    api.Config
		want api.Errno
	}{
		{flagStart(), api.OK},
		{change(func(c *api.Config) { c.Sent = []int{api.MaxParameter, 0} }), api.OK},
		{change(func(c *api.Config) { c.Faulty = []int{0, api.MaxParameter} }), api.OK},
		{change(func(c *api.Config) { c.Value, c.Shape = 0, []int{} }), api.OK},
		{api.Config{}, api.ErrArg},
		{change(func(c *api.Config) { c.States = []int{0, 1} }), api.ErrArg},
		{change(func(c *api.Config) { c.States = []int{0, 1, 2, 0} }), api.ErrArg},
		{change(func(c *api.Config) { c.States[0] = -1 }), api.ErrArg},
		{change(func(c *api.Config) { c.States[2] = 3 }), api.ErrArg},
		{change(func(c *api.Config) { c.Correct = 1 }), api.ErrArg},
		{change(func(c *api.Config) { c.Correct = 3 }), api.ErrArg},
		{change(func(c *api.Config) { c.Sent = []int{1} }), api.ErrArg},
		{change(func(c *api.Config) { c.Sent = []int{1, 0, 0} }), api.ErrArg},
		{change(func(c *api.Config) { c.Sent[0] = -1 }), api.ErrArg},
		{change(func(c *api.Config) { c.Sent[1] = api.MaxParameter + 1 }), api.ErrArg},
		{change(func(c *api.Config) { c.Faulty = nil }), api.ErrArg},
		{change(func(c *api.Config) { c.Faulty = []int{0, 0, 0} }), api.ErrArg},
		{change(func(c *api.Config) { c.Faulty[1] = -1 }), api.ErrArg},
		{change(func(c *api.Config) { c.Faulty[0] = api.MaxParameter + 1 }), api.ErrArg},
		{change(func(c *api.Config) { c.Value = -1 }), api.ErrArg},
		{change(func(c *api.Config) { c.Value = 2 }), api.ErrArg},
		{change(func(c *api.Config) { c.Shape = []int{2, 0, 0} }), api.ErrArg},
	} {
		if e := ValidConfig(p, s, x.c); e != x.want {
			t.Errorf("%d: error %d, not %d: %+v", i, e, x.want, x.c)
		}
	}
}

// P3.4: messages of faulty processes are counted for two kinds of faults only.
func TestFaultyMessages(t *testing.T) {
	for line, faulty := range map[string]api.Errno{"": api.ErrArg, "faults crash\n": api.OK, "faults omission\n": api.OK, "faults arbitrary\n": api.ErrArg} {
		p := withFaults(t, line)
		c := plainStart(p, 0, 1, 2)
		if e := ValidConfig(p, size(3, 0, 0), c); e != api.OK {
			t.Errorf("%q: error %d", line, e)
		}
		c.Faulty[1] = 1
		if e := ValidConfig(p, size(3, 0, 0), c); e != faulty {
			t.Errorf("%q: error %d, not %d", line, e, faulty)
		}
	}
	p := withFaults(t, "faults arbitrary\n")
	for count := range 5 {
		c := plainStart(p, make([]int, count)...)
		if e := ValidConfig(p, size(3, 1, 1), c); (e == api.OK) != (count == 2) {
			t.Errorf("%d processes: error %d", count, e)
		}
	}
	if e := ValidConfig(p, size(3, 3, 3), plainStart(p)); e != api.OK {
		t.Errorf("without processes: error %d", e)
	}
}

// P3.4: without values, and with shapes.
func TestValidConfigElsewhere(t *testing.T) {
	row, ring, oak := family(t, lineText), family(t, tokText), family(t, treeText)
	tree := func(shape ...int) api.Config {
		c := plainStart(oak, 0, 1, 2, 0, 1)
		c.Shape = shape
		return c
	}
	valued := plainStart(row, 0, 1)
	valued.Value = 1
	shaped := plainStart(ring, 0, 1, 1)
	shaped.Shape = []int{2, 0, 0}
	three := plainStart(oak, 0, 0, 0)
	three.Shape = []int{2, 0, 2, 0, 0}
	for i, x := range []struct {
		p    api.Protocol
		n    int
		c    api.Config
		want api.Errno
	}{
		{row, 2, plainStart(row, 0, 1), api.OK}, {row, 2, valued, api.ErrArg},
		{ring, 3, plainStart(ring, 0, 1, 1), api.OK}, {ring, 3, shaped, api.ErrArg},
		{oak, 5, tree(2, 0, 2, 0, 0), api.OK}, {oak, 5, tree(2, 2, 0, 0, 0), api.OK},
		{oak, 5, tree(), api.ErrArg}, {oak, 5, tree(2, 0, 0), api.ErrArg}, {oak, 5, tree(0, 2, 2, 0, 0), api.ErrArg},
		{oak, 5, tree(2, 2, 2, 0, 0), api.ErrArg}, {oak, 5, tree(2, 0, 1, 0, 0), api.ErrArg}, {oak, 3, three, api.ErrArg},
	} {
		if e := ValidConfig(x.p, size(x.n, 0, 0), x.c); e != x.want {
			t.Errorf("%d: error %d, not %d", i, e, x.want)
		}
	}
}

// P3.4: any configuration.
func TestValidAnyConfig(t *testing.T) {
	x := newSource(1)
	right := map[bool]int{}
	for range 30000 {
		p := x.family(t)
		s, ok := x.size(p, 7)
		if !ok {
			continue
		}
		c := x.config(p, s)
		for range x.IntN(3) {
			x.disturb(&c)
		}
		want := plainValid(p, s, c)
		right[want]++
		if e := ValidConfig(p, s, c); (e == api.OK) != want || e != api.OK && e != api.ErrArg {
			t.Fatalf("error %d for %+v of %+v at %v", e, c, p, s)
		}
	}
	if right[true] < 5000 || right[false] < 5000 {
		t.Error(right)
	}
}

// P3.5
func TestCompare(t *testing.T) {
	ascending := []api.Config{
		{Value: minInt},
		{},
		{Value: 1},
		{Correct: 1},
		{Correct: 1, Value: 5},
		{Faulty: []int{0}},
		{Faulty: []int{0, 0}},
		{Faulty: []int{1}, Correct: minInt},
		{Sent: []int{0}},
		{Sent: []int{0}, Faulty: []int{1}},
		{Sent: []int{1}, Faulty: []int{0}},
		{States: []int{minInt}, Sent: []int{7}},
		{States: []int{0}},
		{States: []int{0, 3}},
		{States: []int{1}, Sent: []int{0}},
		{States: []int{maxInt}},
		{Shape: []int{0}},
		{Shape: []int{0}, States: []int{0}},
		{Shape: []int{2}},
		{Shape: []int{2, 0, 2, 0, 0}, States: []int{9}},
		{Shape: []int{2, 2, 0, 0, 0}, States: []int{0}, Correct: maxInt},
	}
	for i, a := range ascending {
		for k, b := range ascending {
			want := max(-1, min(1, i-k))
			if got := Compare(a, b); got != want {
				t.Errorf("%+v and %+v: %d, not %d", a, b, got, want)
			}
		}
	}
	if Compare(api.Config{Sent: []int{}}, api.Config{}) != 0 {
		t.Error("an empty slice is not like nil")
	}
}

// P3.6
func TestInitial(t *testing.T) {
	st, mx, tok, oak := family(t, stText), family(t, mxText), family(t, tokText), family(t, treeText)
	unf := property(t, st, "property unf never start v0 count 1 ac")
	any := property(t, st, "property any eventually goal ac")
	crash := family(t, "protocol p\ntopology clique\nstates a b\nfaults crash\ninitial a b\n")
	startA := property(t, crash, "property q never start b count 1 a")
	shaped := func(states ...int) api.Config {
		c := plainStart(oak, states...)
		c.Shape = []int{2, 0, 0}
		return c
	}
	faulty := func(states ...int) api.Config {
		c := plainStart(crash, states...)
		c.Correct = 2
		return c
	}
	for i, x := range []struct {
		p    api.Protocol
		q    api.Property
		s    api.Size
		want []api.Config
	}{
		{mx, property(t, mx, "property q never count 2 c"), size(2, 0, 0), []api.Config{plainStart(mx, 0, 0)}},
		{st, unf, size(4, 1, 1), []api.Config{plainStart(st, 0, 0, 0)}},
		{st, any, size(2, 0, 0), []api.Config{plainStart(st, 0, 0), plainStart(st, 0, 1), plainStart(st, 1, 0), plainStart(st, 1, 1)}},
		{tok, property(t, tok, "property q never count 2 tk"), size(3, 0, 0), []api.Config{plainStart(tok, 0, 1, 1)}},
		{crash, startA, size(3, 0, 1), []api.Config{faulty(1, 1, 0), faulty(1, 1, 1)}},
		{oak, property(t, oak, "property q never start b count 2 c"), size(3, 0, 0), []api.Config{shaped(2, 1, 1)}},
		{oak, property(t, oak, "property q never count 2 c"), size(1, 0, 0), []api.Config{{Shape: []int{0}, States: []int{2}, Correct: 1}}},
	} {
		if got, e := Initial(x.p, x.q, x.s); e != api.OK || !same(got, x.want) || !apart(got) {
			t.Errorf("%d: error %d, %v", i, e, got)
		}
	}
}

func TestInitialOfAnyFamily(t *testing.T) {
	x := newSource(2)
	for range 3000 {
		p := x.family(t)
		q := x.property(t, p, x.between(api.Never, api.Eventually))
		s, ok := x.size(p, 5)
		if !ok {
			continue
		}
		want := plainInitial(p, q, s)
		if !slices.IsSortedFunc(want, Compare) {
			t.Fatal("the plain list is not ascending")
		}
		if got, e := Initial(p, q, s); e != api.OK || !same(got, want) {
			t.Fatalf("error %d, %d, not %d configurations of %+v at %v", e, len(got), len(want), p, s)
		}
	}
}

// manyText has 5^3 times 2^5 initial configurations at n=8, f=3 if correct processes start in s0 and s1: MaxConfigs.
const manyText = "protocol many\ntopology clique\nstates s0 s1 s2 s3 s4 s5\nfaults crash\ninitial s0 s1 s2 s3 s4\n"

// P3.6: the limit.
func TestInitialLimit(t *testing.T) {
	p := family(t, manyText)
	q := property(t, p, "property q never start s0 s1 count 1 s5")
	if got, e := Initial(p, q, size(8, 0, 3)); e != api.OK || len(got) != api.MaxConfigs {
		t.Errorf("error %d, %d configurations", e, len(got))
	}
	for _, s := range []api.Size{size(8, 0, 4), size(8, 8, 8)} {
		if got, e := Initial(p, q, s); e != api.ErrLarge || got != nil {
			t.Errorf("%v: error %d, %d configurations", s, e, len(got))
		}
	}
	four := family(t, "protocol p\ntopology line\nstates a b c d\ninitial a b c d\n")
	any := property(t, four, "property q never count 1 a")
	if got, e := Initial(four, any, size(5, 0, 0)); e != api.OK || len(got) != 1024 {
		t.Errorf("error %d, %d configurations", e, len(got))
	}
	if got, e := Initial(four, any, size(6, 0, 0)); e != api.ErrLarge || got != nil {
		t.Errorf("error %d, %d configurations", e, len(got))
	}
	// Five shapes of 2^7 and of 3^7 choices.
	for _, x := range []struct {
		text string
		want api.Errno
	}{{"initial a b\n", api.OK}, {"initial a b c\n", api.ErrLarge}} {
		tree := family(t, "protocol p\ntopology tree\nstates a b c\n"+x.text)
		if got, e := Initial(tree, property(t, tree, "property q never count 1 a"), size(7, 0, 0)); e != x.want || e == api.OK && len(got) != 640 {
			t.Errorf("%q: error %d, %d configurations", x.text, e, len(got))
		}
	}
}

// P3.13
func TestCanonical(t *testing.T) {
	p, row := family(t, flagText), family(t, lineText)
	for i, x := range []struct {
		p          api.Protocol
		c, want    api.Config
		wantErrors api.Errno
	}{
		{p, api.Config{States: []int{2, 0, 1, 2, 1, 0}, Correct: 4, Sent: []int{5, 4}, Faulty: []int{2, 1}, Value: 1},
			api.Config{States: []int{0, 1, 2, 2, 0, 1}, Correct: 4, Sent: []int{5, 4}, Faulty: []int{2, 1}, Value: 1}, api.OK},
		{p, api.Config{States: []int{2, 0}, Correct: 0}, api.Config{States: []int{0, 2}}, api.OK},
		{p, api.Config{States: []int{2, 0}, Correct: 2}, api.Config{States: []int{0, 2}, Correct: 2}, api.OK},
		{p, api.Config{}, api.Config{}, api.OK},
		// Only the processes are examined.
		{p, api.Config{Shape: []int{7, 3}, States: []int{1, 0}, Correct: 1, Sent: []int{-9}, Faulty: []int{3, 2, 1, 0}, Value: 77},
			api.Config{Shape: []int{7, 3}, States: []int{1, 0}, Correct: 1, Sent: []int{-9}, Faulty: []int{3, 2, 1, 0}, Value: 77}, api.OK},
		{row, api.Config{Shape: []int{9, 8}, States: []int{2, 0, 1}, Correct: 3}, api.Config{Shape: []int{9, 8}, States: []int{2, 0, 1}, Correct: 3}, api.OK},
		{family(t, tokText), api.Config{States: []int{1, 0}, Correct: 2}, api.Config{States: []int{1, 0}, Correct: 2}, api.OK},
		{family(t, treeText), api.Config{States: []int{1, 0}, Correct: 2}, api.Config{States: []int{1, 0}, Correct: 2}, api.OK},
		{p, api.Config{States: []int{3}, Correct: 1}, api.Config{}, api.ErrArg},
		{p, api.Config{States: []int{0, -1}, Correct: 1}, api.Config{}, api.ErrArg},
		{p, api.Config{States: []int{0}, Correct: 2}, api.Config{}, api.ErrArg},
		{p, api.Config{States: []int{0}, Correct: -1}, api.Config{}, api.ErrArg},
		{row, api.Config{States: []int{3}, Correct: 1}, api.Config{}, api.ErrArg},
	} {
		before := cloned(x.c)
		got, e := Canonical(x.p, x.c)
		if e != x.wantErrors || !same(got, x.want) {
			t.Errorf("%d: error %d, %+v", i, e, got)
		}
		if !same(x.c, before) || !apart(got, x.c) {
			t.Errorf("%d: the result shares memory with the argument", i)
		}
	}
}

// Sorting changes no property and no step but for the numbers of the processes.
func TestCanonicalOfAnyConfig(t *testing.T) {
	x := newSource(3)
	for range 5000 {
		p := x.family(t)
		s, ok := x.size(p, 6)
		if !ok {
			continue
		}
		c := x.config(p, s)
		got, e := Canonical(p, c)
		if e != api.OK || !same(got, plainCanonical(p, c)) {
			t.Fatalf("error %d, %v for %v", e, got, c)
		}
		if e := ValidConfig(p, s, got); e != api.OK || protocol.Validate(p) != api.OK {
			t.Fatalf("error %d for %v", e, got)
		}
	}
}
