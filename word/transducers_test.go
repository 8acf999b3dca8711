package word

import (
	"slices"
	"testing"

	"familycheck/api"
)

// identity relates each word to itself.
func identity(letters int) api.Transducer {
	t := api.Transducer{Letters: letters, States: 1, Start: ints(0), Accept: ints(0)}
	for x := range letters {
		t.Moves = append(t.Moves, api.Move{In: x, Out: x})
	}
	return t
}

// P6.6: some pairs of words of some transducers.
func TestRelates(t *testing.T) {
	for i, x := range []struct {
		t    api.Transducer
		u, v string
		want bool
		e    api.Errno
	}{
		{later(), "", "", false, api.OK},
		{later(), "0", "1", true, api.OK},
		{later(), "1", "0", false, api.OK},
		{later(), "010", "110", true, api.OK},
		{later(), "010", "011", true, api.OK},
		{later(), "010", "111", false, api.OK},
		{later(), "010", "010", false, api.OK},
		{later(), "010", "01", false, api.OK},
		{later(), "01", "010", false, api.OK},
		{later(), "", "1", false, api.OK},
		{later(), "2", "1", false, api.ErrArg},
		{later(), "0", "2", false, api.ErrArg},
		{later(), "0", "12", false, api.ErrArg},
		{later(), "", "2", false, api.ErrArg},
		{identity(2), "", "", true, api.OK},
		{identity(2), "01", "01", true, api.OK},
		{identity(2), "01", "00", false, api.OK},
		{identity(8), "70", "70", true, api.OK},
		{identity(8), "07", "70", false, api.OK},
		{api.Transducer{Letters: 2}, "", "", false, api.OK},
		{api.Transducer{Letters: 2}, "0", "1", false, api.OK},
		{api.Transducer{Letters: 2}, "0", "3", false, api.ErrArg},
	} {
		if got, e := Relates(x.t, word(x.u), word(x.v)); got != x.want || e != x.e {
			t.Errorf("%d: %v, error %d", i, got, e)
		}
	}
	for _, x := range []int{-1, minInt, maxInt} {
		if got, e := Relates(later(), ints(x), ints(0)); got || e != api.ErrArg {
			t.Error(x, got, e)
		}
		if got, e := Relates(later(), ints(0), ints(x)); got || e != api.ErrArg {
			t.Error(x, got, e)
		}
	}
}

// P6.6, P6.7: small transducers of all forms against plain searches.
func TestTransducersPlainly(t *testing.T) {
	x := newSource(4)
	found := 0
	for range 1200 {
		letters := x.between(1, 3)
		a, b := x.transducer(letters, 3), x.transducer(letters, 3)
		back, both := related(t)(Inverse(a)), related(t)(Compose(a, b))
		for length := range 4 {
			list := plainWords(letters, length)
			u := list[x.IntN(len(list))]
			for _, v := range list {
				want := plainRelates(a, u, v)
				if got, e := Relates(a, u, v); e != api.OK || got != want {
					t.Fatalf("Relates: %v, %d: %v, %v, %v", got, e, a, u, v)
				}
				if got := plainRelates(back, v, u); got != want {
					t.Fatalf("Inverse: %v: %v, %v, %v", got, a, u, v)
				}
				want = slices.ContainsFunc(list, func(w []int) bool { return plainRelates(a, u, w) && plainRelates(b, w, v) })
				if got := plainRelates(both, u, v); got != want {
					t.Fatalf("Compose: %v: %v, %v, %v, %v", got, a, b, u, v)
				}
				if want && length > 0 {
					found++
				}
			}
		}
		if ValidateTransducer(back) != api.OK || ValidateTransducer(both) != api.OK {
			t.Fatal(back, both)
		}
		from := x.automaton(letters, 4)
		image := accepted(t)(Image(a, from))
		if want := plainCanonical(plainImage(a, from)); !same(image, want) {
			t.Fatalf("Image: %v, not %v: %v, %v", image, want, a, from)
		}
		for _, v := range plainWordsTo(letters, 3) {
			want := slices.ContainsFunc(plainWords(letters, len(v)), func(u []int) bool { return plainAccepts(from, u) && plainRelates(a, u, v) })
			if plainAccepts(image, v) != want {
				t.Fatalf("Image: %v: %v, %v", v, a, from)
			}
		}
	}
	if found < 300 {
		t.Error(found)
	}
}

// P6.7: words that must not be related, though their parts are.
func TestCompose(t *testing.T) {
	both := related(t)(Compose(later(), later()))
	for i, x := range []struct {
		u, v string
		want bool
	}{{"", "", false}, {"0", "1", false}, {"00", "11", true}, {"000", "101", true}, {"000", "001", false}, {"000", "111", false}, {"100", "111", true}, {"100", "011", false}} {
		if got := plainRelates(both, word(x.u), word(x.v)); got != x.want {
			t.Errorf("%d: %v", i, got)
		}
	}
	back := related(t)(Inverse(later()))
	there := related(t)(Compose(later(), back))
	if !plainRelates(there, word("00"), word("00")) || !plainRelates(there, word("01"), word("01")) || plainRelates(there, word("11"), word("11")) || plainRelates(there, word("01"), word("11")) {
		t.Error(there)
	}
}

// P6.7: up to MaxMachine pairs of states in Compose.
func TestComposeLimit(t *testing.T) {
	for i, x := range []struct {
		first, second int
		want          api.Errno
	}{
		{20, 20, api.OK}, {21, 19, api.OK}, {400, 1, api.OK}, {1, 400, api.OK}, {0, 400, api.OK}, {400, 0, api.OK}, {0, 0, api.OK}, {200, 2, api.OK},
		{21, 20, api.ErrLarge}, {20, 21, api.ErrLarge}, {400, 2, api.ErrLarge}, {2, 201, api.ErrLarge}, {400, 400, api.ErrLarge},
		{401, 0, api.ErrArg}, {0, 401, api.ErrArg}, {-1, -1, api.ErrArg}, {-1, 400, api.ErrArg},
	} {
		c, e := Compose(api.Transducer{Letters: 2, States: x.first}, api.Transducer{Letters: 2, States: x.second})
		if e != x.want || e != api.OK && !isZero(c) || e == api.OK && ValidateTransducer(c) != api.OK {
			t.Errorf("%d: %v, error %d", i, c, e)
		}
	}
	long := identity(2)
	long.States = 200
	if c := related(t)(Compose(long, later())); !plainRelates(c, word("00"), word("01")) {
		t.Error(c)
	}
}

// P6.7: up to 4000 pairs of states in Image, and up to MaxMachine subsets of them.
func TestImageLimit(t *testing.T) {
	for i, x := range []struct {
		first, second int
		want          api.Errno
	}{
		{10, 400, api.OK}, {400, 10, api.OK}, {40, 100, api.OK}, {0, 400, api.OK}, {400, 0, api.OK}, {0, 0, api.OK}, {1, 1, api.OK},
		{11, 364, api.ErrLarge}, {364, 11, api.ErrLarge}, {400, 400, api.ErrLarge}, {11, 400, api.ErrLarge},
		{401, 0, api.ErrArg}, {0, 401, api.ErrArg}, {-1, 1, api.ErrArg},
	} {
		a, e := Image(api.Transducer{Letters: 2, States: x.first}, api.Automaton{Letters: 2, States: x.second})
		if e != x.want || e != api.OK && !isZero(a) || e == api.OK && a.States != 1 {
			t.Errorf("%d: %v, error %d", i, a, e)
		}
	}
	two := identity(1)
	two.States, two.Start = 2, ints(0, 1) // the second state is left at once: one more subset
	for i, x := range []struct {
		t      api.Transducer
		a      api.Automaton
		states int // 0: too many subsets
	}{
		{identity(1), cycle(400, 0), 400},
		{identity(1), chain(1, 398), 400},
		{identity(1), chain(1, 399), 0},
		{identity(2), far(8), 256},
		{identity(2), far(9), 0},
		{two, cycle(399, 0), 399},
		{two, cycle(400, 0), 0},
	} {
		want := api.OK
		if x.states == 0 {
			want = api.ErrLarge
		}
		if a, e := Image(x.t, x.a); a.States != x.states || e != want {
			t.Errorf("%d: %d states, error %d", i, a.States, e)
		}
	}
	// The limit is that of the pairs, also where the language is small: nothing is accepted.
	none := far(9)
	none.Accept = nil
	if a, e := Image(identity(2), none); e != api.ErrLarge || !isZero(a) {
		t.Error(a, e)
	}
}
