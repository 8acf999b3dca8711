package cover

import (
	"slices"
	"testing"

	"familycheck/api"
	"familycheck/unfold"
)

// P5.2: the elements of a family.
func TestValidElement(t *testing.T) {
	mx, infect := family(t, mxText), family(t, infectText)
	for i, x := range []struct {
		p    api.Protocol
		e    api.Element
		want api.Errno
	}{
		{mx, element(0, 0, 0, 0), api.OK},
		{mx, element(1, 1, 2, 3), api.OK},
		{mx, element(1, api.MaxParameter, api.MaxParameter, api.MaxParameter), api.OK},
		{mx, element(0, api.MaxParameter+1, 0, 0), api.ErrArg},
		{mx, element(0, 0, 0, api.MaxParameter+1), api.ErrArg},
		{mx, element(0, 0, maxInt, 0), api.ErrArg},
		{mx, element(0, 0, -1, 0), api.ErrArg},
		{mx, element(0, 0, 0, minInt), api.ErrArg},
		{mx, element(2, 0, 0, 0), api.ErrArg},
		{mx, element(-1, 0, 0, 0), api.ErrArg},
		{mx, element(0, 0, 0), api.ErrArg},
		{mx, element(0, 0, 0, 0, 0), api.ErrArg},
		{mx, element(0), api.ErrArg},
		{infect, element(0, 0, 7), api.OK},
		{infect, element(1, 0, 7), api.ErrArg},
		{infect, element(-1, 0, 7), api.ErrArg},
		{family(t, forallText), element(1, 0, 7, 0, 1), api.OK},
		{family(t, forallText), element(2, 0, 7, 0, 1), api.ErrArg},
	} {
		if e := ValidElement(x.p, x.e); e != x.want {
			t.Errorf("%d: error %d, not %d", i, e, x.want)
		}
	}
}

// P5.2: elements of any families, also those that none has.
func TestLeqAndCompare(t *testing.T) {
	for i, x := range []struct {
		a, b    api.Element
		leq     bool
		compare int
	}{
		{element(0, 1, 0, 2), element(0, 1, 0, 2), true, 0},
		{element(0, 1, 0, 2), element(0, 1, 1, 2), true, -1},
		{element(0, 1, 1, 2), element(0, 1, 0, 2), false, 1},
		{element(0, 0, 2), element(0, 1, 1), false, -1},
		{element(0, 1, 1), element(0, 0, 2), false, 1},
		{element(0, 0, 0), element(1, 0, 0), false, -1},
		{element(1, 0, 0), element(0, 5, 5), false, 1},
		{element(0, 1), element(0, 1, 1), false, -1},
		{element(0, 1, 1), element(0, 1), false, 1},
		{element(0, 2), element(0, 1, 1), false, 1},
		{element(0), element(0, minInt), false, -1},
		{element(0), element(0), true, 0},
		{element(minInt), element(maxInt), false, -1},
		{element(maxInt), element(minInt), false, 1},
		{element(-3, minInt, 0), element(-3, maxInt, 0), true, -1},
		{element(9, maxInt, minInt), element(9, maxInt, -1), true, -1},
		{element(0, -1), element(0, 0), true, -1},
		{element(0, 1, 1, 1, 1, 1, 1, 1), element(0, 1, 1, 1, 1, 1, 1, 2), true, -1},
	} {
		if ok := Leq(x.a, x.b); ok != x.leq {
			t.Errorf("%d: Leq is %v", i, ok)
		}
		if c := Compare(x.a, x.b); c != x.compare {
			t.Errorf("%d: Compare is %d", i, c)
		}
	}
}

// P5.2: the order follows the plain functions for all small elements.
func TestOrderPlain(t *testing.T) {
	x := newSource(2)
	for range 20000 {
		a, b := x.anyElement(), x.anyElement()
		if Leq(a, b) != plainLeq(a, b) || Compare(a, b) != plainCompare(a, b) {
			t.Fatal(a, b)
		}
	}
}

// P5.2: the sum, or 0.
func TestTotal(t *testing.T) {
	const most = api.MaxParameter
	for i, x := range []struct {
		e    api.Element
		want int
	}{
		{element(0), 0},
		{element(0, 0, 0), 0},
		{element(7, 1, 2, 3), 6},
		{element(-1, 5), 5},
		{element(0, 1, 2, 3, 4, 5, 6), 21},
		{element(0, 1, 2, 3, 4, 5, 6, 0), 0},
		{element(0, 0, 0, 0, 0, 0, 0, 1), 0},
		{element(0, most, most, most, most, most, most), 6 * most},
		{element(0, most+1), 0},
		{element(0, 3, most+1, 3), 0},
		{element(0, 3, -1, 3), 0},
		{element(0, 3, minInt), 0},
		{element(0, maxInt, maxInt), 0},
	} {
		if n := Total(x.e); n != x.want {
			t.Errorf("%d: %d, not %d", i, n, x.want)
		}
	}
}

// P5.3: the minimal elements and the upward closure.
func TestMinimize(t *testing.T) {
	for i, x := range []struct{ l, want []api.Element }{
		{nil, nil},
		{elements(element(0, 1)), elements(element(0, 1))},
		{elements(element(0, 1), element(0, 1), element(0, 1)), elements(element(0, 1))},
		{elements(element(0, 2), element(0, 1), element(0, 3)), elements(element(0, 1))},
		{elements(element(0, 2, 0), element(0, 0, 2), element(0, 1, 1)), elements(element(0, 0, 2), element(0, 1, 1), element(0, 2, 0))},
		{elements(element(0, 1, 1), element(0, 0, 1), element(0, 1, 0)), elements(element(0, 0, 1), element(0, 1, 0))},
		{elements(element(1, 0), element(0, 5)), elements(element(0, 5), element(1, 0))},
		{elements(element(0, 0, 0), element(0, 5), element(0)), elements(element(0), element(0, 0, 0), element(0, 5))},
		{elements(element(0, 1, 2), element(0, minInt, 1), element(0, -1, 0)), elements(element(0, minInt, 1), element(0, -1, 0))},
	} {
		if l := Minimize(x.l); !same(l, x.want) {
			t.Errorf("%d: %v", i, l)
		}
	}
}

// P5.3: all lists of a source, also with elements that no family has.
func TestMinimizePlain(t *testing.T) {
	x := newSource(3)
	for range 5000 {
		var l []api.Element
		for range x.IntN(12) {
			l = append(l, x.anyElement())
		}
		if got, want := Minimize(l), plainMinimal(l); !same(got, want) {
			t.Fatalf("%v: %v, not %v", l, got, want)
		}
		e := x.anyElement()
		if Contains(l, e) != plainContains(l, e) || Contains(Minimize(l), e) != plainContains(l, e) {
			t.Fatal(l, e)
		}
	}
}

// P5.4: configurations that are valid, and their elements.
func TestAbstract(t *testing.T) {
	mx, infect := family(t, mxText), family(t, infectText)
	with := func(change func(c *api.Config)) api.Config {
		c := config(1, 2, 0, 2)
		change(&c)
		return c
	}
	for i, x := range []struct {
		p    api.Protocol
		c    api.Config
		want api.Element
		e    api.Errno
	}{
		{mx, config(1, 2, 0, 2), element(1, 1, 0, 2), api.OK},
		{mx, config(0, 1), element(0, 0, 1, 0), api.OK},
		{mx, config(0, 2, 1, 0, 2, 1, 0, 2, 1), element(0, 2, 3, 3), api.OK},
		{infect, config(0, 1, 0, 1), element(0, 1, 2), api.OK},
		{family(t, forallText), config(1, 3, 3, 0, 1), element(1, 1, 1, 0, 2), api.OK},
		{mx, config(0), api.Element{}, api.ErrArg},
		{mx, config(0, 2, 1, 0, 2, 1, 0, 2, 1, 0), api.Element{}, api.ErrArg},
		{mx, config(2, 0), api.Element{}, api.ErrArg},
		{mx, config(-1, 0), api.Element{}, api.ErrArg},
		{infect, config(1, 0), api.Element{}, api.ErrArg},
		{mx, config(0, 0, 3), api.Element{}, api.ErrArg},
		{mx, config(0, -1), api.Element{}, api.ErrArg},
		{mx, with(func(c *api.Config) { c.Correct = 2 }), api.Element{}, api.ErrArg},
		{mx, with(func(c *api.Config) { c.Correct = 4 }), api.Element{}, api.ErrArg},
		{mx, with(func(c *api.Config) { c.Sent = []int{0} }), api.Element{}, api.ErrArg},
		{mx, with(func(c *api.Config) { c.Faulty = []int{0} }), api.Element{}, api.ErrArg},
		{mx, with(func(c *api.Config) { c.Shape = []int{2, 0, 0} }), api.Element{}, api.ErrArg},
	} {
		if got, e := Abstract(x.p, x.c); !same(got, x.want) || e != x.e {
			t.Errorf("%d: %v, error %d", i, got, e)
		}
	}
}

// P5.4: the configuration of an element.
func TestConfiguration(t *testing.T) {
	mx, infect := family(t, mxText), family(t, infectText)
	for i, x := range []struct {
		p    api.Protocol
		e    api.Element
		want api.Config
		err  api.Errno
	}{
		{mx, element(1, 1, 0, 2), config(1, 0, 2, 2), api.OK},
		{mx, element(0, 0, 1, 0), config(0, 1), api.OK},
		{mx, element(0, 3, 2, 3), config(0, 0, 0, 0, 1, 1, 2, 2, 2), api.OK},
		{infect, element(0, 8, 0), config(0, 0, 0, 0, 0, 0, 0, 0, 0), api.OK},
		{family(t, forallText), element(1, 1, 0, 0, 1), config(1, 0, 3), api.OK},
		{mx, element(1, 0, 0, 0), api.Config{}, api.ErrArg},
		{mx, element(0, 3, 3, 3), api.Config{}, api.ErrLarge},
		{mx, element(0, 0, 9, 0), api.Config{}, api.ErrLarge},
		{mx, element(0, api.MaxParameter, api.MaxParameter, 0), api.Config{}, api.ErrLarge},
		{mx, element(0, api.MaxParameter+1, 0, 0), api.Config{}, api.ErrArg},
		{mx, element(2, 9, 9, 9), api.Config{}, api.ErrArg},
		{mx, element(0, 9, 9), api.Config{}, api.ErrArg},
	} {
		if got, e := Configuration(x.p, x.e); !same(got, x.want) || e != x.err {
			t.Errorf("%d: %v, error %d", i, got, e)
		}
	}
}

// P5.4: Configuration returns a valid configuration in ascending order, and Abstract undoes it.
func TestConfigurationPlain(t *testing.T) {
	x := newSource(4)
	for range 3000 {
		p := x.family(t, 4, true)
		e := x.element(p, 8)
		c, err := Configuration(p, e)
		if n := plainTotal(e); n == 0 {
			if err != api.ErrArg {
				t.Fatal(e, err)
			}
			continue
		}
		if err != api.OK || !same(c, config(e.Value, plainStates(e)...)) || unfold.ValidConfig(p, api.Size{N: len(c.States)}, c) != api.OK {
			t.Fatal(e, c, err)
		}
		slices.Reverse(c.States)
		if back, err := Abstract(p, c); err != api.OK || !same(back, e) {
			t.Fatal(e, back, err)
		}
	}
}

// P5.8: what an element must be for an initial configuration above it.
func TestInitial(t *testing.T) {
	p := family(t, replaced(t, mxText, "initial i", "initial i w"))
	for i, x := range []struct {
		property string
		e        api.Element
		want     bool
	}{
		{"property q never count 1 c", element(0, 3, 0, 0), true},
		{"property q never count 1 c", element(0, 3, 2, 0), true},
		{"property q never count 1 c", element(0, 0, 0, 0), true},
		{"property q never count 1 c", element(0, api.MaxParameter, 0, 0), true},
		{"property q never count 1 c", element(1, 3, 0, 0), false},
		{"property q never count 1 c", element(1, 0, 0, 0), false},
		{"property q never count 1 c", element(0, 3, 2, 1), false},
		{"property q never start i count 1 c", element(0, 3, 0, 0), true},
		{"property q never start i count 1 c", element(0, 3, 1, 0), false},
		{"property q never start w count 1 c", element(0, 3, 0, 0), false},
		{"property q never start w count 1 c", element(0, 0, 1, 0), true},
		{"property q never start i w count 1 c", element(0, 1, 1, 0), true},
	} {
		if ok, e := Initial(p, property(t, p, x.property), x.e); ok != x.want || e != api.OK {
			t.Errorf("%d: %v, error %d", i, ok, e)
		}
	}
}

// P5.8: an initial configuration of some size is above the element exactly if Initial says so.
func TestInitialPlain(t *testing.T) {
	x := newSource(5)
	found := 0
	for range 600 {
		p := x.family(t, 3, false)
		q := x.property(t, p, 1)
		e := x.element(p, 3)
		want := false
		for n := 1; n <= 4; n++ {
			list, err := unfold.Initial(p, q, api.Size{N: n})
			if err != api.OK {
				t.Fatal(err)
			}
			for _, c := range list {
				want = want || plainLeq(e, plainElement(p, c.Value, c.States))
			}
		}
		if ok, err := Initial(p, q, e); ok != want || err != api.OK || ok != plainIsInitial(p, q, e) {
			t.Fatalf("%v, error %d: %+v %+v %v", ok, err, p, q, e)
		}
		if want {
			found++
		}
	}
	if found < 100 || found > 500 {
		t.Error(found)
	}
}
