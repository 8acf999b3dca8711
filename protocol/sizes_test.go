package protocol

import (
	"slices"
	"testing"

	"familycheck/api"
)

// P2.5
func TestEvaluate(t *testing.T) {
	const m = api.MaxParameter
	for i, x := range []struct {
		l    api.Linear
		s    api.Size
		want int
		e    api.Errno
	}{
		{api.Linear{}, api.Size{}, 0, api.OK},
		{api.Linear{C: -7}, api.Size{N: 5, T: 6, F: 7}, -7, api.OK},
		{api.Linear{N: 2}, api.Size{N: 5, T: 60, F: 700}, 10, api.OK},
		{api.Linear{T: 2}, api.Size{N: 5, T: 60, F: 700}, 120, api.OK},
		{api.Linear{F: 2}, api.Size{N: 5, T: 60, F: 700}, 1400, api.OK},
		{api.Linear{C: 1, N: 2, T: -3, F: 4}, api.Size{N: 5, T: 60, F: 700}, 2631, api.OK},
		{api.Linear{C: 100, N: 100, T: 100, F: 100}, api.Size{N: m, T: m, F: m}, 300*m + 100, api.OK},
		{api.Linear{C: -100, N: -100, T: -100, F: -100}, api.Size{N: m, T: m, F: m}, -300*m - 100, api.OK},
		{api.Linear{C: 101}, api.Size{N: -1}, 0, api.ErrLarge},
		{api.Linear{C: -101}, api.Size{}, 0, api.ErrLarge},
		{api.Linear{N: 101}, api.Size{}, 0, api.ErrLarge},
		{api.Linear{N: -101}, api.Size{}, 0, api.ErrLarge},
		{api.Linear{T: 101}, api.Size{}, 0, api.ErrLarge},
		{api.Linear{T: minInt}, api.Size{}, 0, api.ErrLarge},
		{api.Linear{F: maxInt}, api.Size{F: m + 1}, 0, api.ErrLarge},
		{api.Linear{F: -101}, api.Size{}, 0, api.ErrLarge},
		{api.Linear{C: 1}, api.Size{N: -1}, 0, api.ErrSize},
		{api.Linear{C: 1}, api.Size{N: m + 1}, 0, api.ErrSize},
		{api.Linear{C: 1}, api.Size{T: -1}, 0, api.ErrSize},
		{api.Linear{C: 1}, api.Size{T: m + 1}, 0, api.ErrSize},
		{api.Linear{C: 1}, api.Size{F: minInt}, 0, api.ErrSize},
		{api.Linear{C: 1}, api.Size{F: maxInt}, 0, api.ErrSize},
	} {
		if v, e := Evaluate(x.l, x.s); v != x.want || e != x.e {
			t.Errorf("%d: %d, error %d", i, v, e)
		}
	}
}

// P2.6
func TestAdmissible(t *testing.T) {
	const m = api.MaxParameter
	free, omission, bounded, oak := full(), full(), mx(), oak()
	free.Resilience = nil
	omission.Fault, omission.Resilience = api.Omission, []api.Linear{{C: -3, N: 1}}
	bounded.Resilience = []api.Linear{{C: 5, N: -1}, {C: -3, N: 1}}
	for i, x := range []struct {
		p    api.Protocol
		s    api.Size
		want bool
	}{
		{mx(), api.Size{N: 1}, true}, {mx(), api.Size{N: 9}, true}, {mx(), api.Size{N: m}, true}, {mx(), api.Size{N: m + 1}, false}, {mx(), api.Size{N: maxInt}, false},
		{mx(), api.Size{}, false}, {mx(), api.Size{N: -1}, false}, {mx(), api.Size{N: minInt}, false},
		{mx(), api.Size{N: 2, T: 1}, false}, {mx(), api.Size{N: 2, F: 1}, false}, {mx(), api.Size{N: 2, T: -1}, false}, {mx(), api.Size{N: 2, F: -1}, false},
		{free, api.Size{N: 3, T: 3, F: 3}, true}, {free, api.Size{N: 3, T: 0, F: 3}, true}, {free, api.Size{N: 3, T: 4}, false}, {free, api.Size{N: 3, F: 4}, false}, {free, api.Size{N: 3, T: -1}, false}, {free, api.Size{N: 3, F: -1}, false}, {free, api.Size{N: m, T: m, F: m}, true},
		{omission, api.Size{N: 2}, false}, {omission, api.Size{N: 3, F: 2}, true},
		{bounded, api.Size{N: 2}, false}, {bounded, api.Size{N: 3}, true}, {bounded, api.Size{N: 5}, true}, {bounded, api.Size{N: 6}, false},
		{st(), api.Size{N: 3, T: 1}, false}, {st(), api.Size{N: 4, T: 1, F: 1}, true}, {st(), api.Size{N: 4, F: 1}, false},
		{tok(), api.Size{N: 1}, true}, {tok(), api.Size{N: 2}, true}, {row(), api.Size{N: 8}, true}, {tok(), api.Size{N: 2, T: 1}, false},
		{oak, api.Size{N: 1}, true}, {oak, api.Size{N: 2}, false}, {oak, api.Size{N: 7}, true}, {oak, api.Size{N: 8}, false}, {oak, api.Size{N: m - 1}, true}, {oak, api.Size{N: m}, false},
		{api.Protocol{}, api.Size{N: 1}, false},
	} {
		if got := Admissible(x.p, x.s); got != x.want {
			t.Errorf("%d: %v", i, got)
		}
	}
	for e, p := range invalid() {
		if Admissible(p, api.Size{N: 4}) {
			t.Errorf("a family with error %d", e)
		}
	}
}

// P2.7
func TestSizes(t *testing.T) {
	free := full()
	free.Resilience = nil
	for i, x := range []struct {
		p    api.Protocol
		n    int
		want []api.Size
		e    api.Errno
	}{
		{st(), 2, []api.Size{{N: 2}}, api.OK},
		{st(), 4, []api.Size{{N: 4}, {N: 4, T: 1}, {N: 4, T: 1, F: 1}}, api.OK},
		{free, 1, []api.Size{{N: 1}, {N: 1, T: 1}, {N: 1, F: 1}, {N: 1, T: 1, F: 1}}, api.OK},
		{mx(), 8, []api.Size{{N: 8}}, api.OK},
		{oak(), 7, []api.Size{{N: 7}}, api.OK},
		{oak(), 8, nil, api.OK},
		{row(), 8, []api.Size{{N: 8}}, api.OK},
		{st(), 0, nil, api.ErrArg},
		{st(), -1, nil, api.ErrArg},
		{st(), 9, nil, api.ErrArg},
		{st(), maxInt, nil, api.ErrArg},
		{api.Protocol{}, 9, nil, api.ErrName},
	} {
		if l, e := Sizes(x.p, x.n); e != x.e || !slices.Equal(l, x.want) {
			t.Errorf("%d: %v, error %d", i, l, e)
		}
	}
	if l, _ := Sizes(free, 8); len(l) != 81 {
		t.Errorf("all sizes with 8 processes: %d", len(l))
	}
	for e, p := range invalid() {
		if l, got := Sizes(p, 9); got != e || !isZero(l) {
			t.Errorf("%v, error %d, not %d", l, got, e)
		}
	}
}

// P2.6, P2.7: against a plain search.
func TestSizesOfAnyFamily(t *testing.T) {
	x := newSource(3)
	count := 0
	for range 500 {
		p := x.family()
		for n := 1; n <= api.MaxProcesses; n++ {
			var want []api.Size
			for f := -1; f <= n+1; f++ {
				for tolerated := -1; tolerated <= n+1; tolerated++ {
					s := api.Size{N: n, T: tolerated, F: f}
					ok := plainAdmissible(p, s)
					if Admissible(p, s) != ok {
						t.Fatalf("%+v: %v", p, s)
					}
					if ok {
						want = append(want, s)
					}
				}
			}
			l, e := Sizes(p, n)
			if e != api.OK || !slices.Equal(l, want) || !slices.IsSortedFunc(l, Compare) {
				t.Fatalf("%+v: %v, error %d", p, l, e)
			}
			count += len(l)
		}
	}
	if count < 2000 {
		t.Error("few sizes:", count)
	}
}

func plainAdmissible(p api.Protocol, s api.Size) bool {
	if s.N < 1 || s.T < 0 || s.F < 0 || s.T > s.N || s.F > s.N {
		return false
	}
	for _, l := range p.Resilience {
		if v, e := Evaluate(l, s); e != api.OK || v < 0 {
			return false
		}
	}
	return (p.Fault != api.NoFault || s.T+s.F == 0) && (p.Topology != api.Tree || s.N%2 == 1)
}

// P2.7
func TestCompareSizes(t *testing.T) {
	ascending := []api.Size{
		{N: minInt, T: maxInt, F: maxInt}, {N: -1, T: 5, F: 5}, {N: 0, T: 5, F: -1}, {}, {T: 1}, {T: 2}, {T: 0, F: 1}, {T: 7, F: 1}, {T: minInt, F: 2},
		{N: 1}, {N: 1, T: 1}, {N: 1, F: 1}, {N: 2, T: -5, F: -5}, {N: 2}, {N: maxInt, T: minInt, F: minInt}, {N: maxInt},
	}
	for i, a := range ascending {
		for k, b := range ascending {
			want := 0
			if i < k {
				want = -1
			} else if i > k {
				want = 1
			}
			if got := Compare(a, b); got != want {
				t.Errorf("%v, %v: %d", a, b, got)
			}
		}
	}
}
