package linear

import (
	"math/big"
	"slices"
	"testing"
)

func TestMultiply(t *testing.T) {
	const most = 1<<62 - 1
	for i, x := range []struct {
		a, b int
		ok   bool
	}{
		{0, 0, true}, {0, maxInt, true}, {maxInt, 0, true}, {3, -4, true}, {-3, -4, true},
		{most, 1, true}, {most, -1, true}, {most + 1, 1, false}, {1, -most - 1, false},
		{1 << 31, 1<<31 - 1, true}, {1 << 31, 1 << 31, false}, {-1 << 31, 1 << 31, false}, {-1 << 31, -1 << 31, false}, {-1 << 31, 1<<31 - 1, true},
		{1 << 40, 1 << 21, true}, {1 << 40, 1 << 22, false}, {1 << 62, 4, false}, {maxInt, maxInt, false}, {1 << 32, 1 << 32, false},
	} {
		product, ok := multiply(x.a, x.b)
		if ok != x.ok || ok && product != x.a*x.b {
			t.Errorf("%d: %d, %v", i, product, ok)
		}
	}
}

func TestLessProduct(t *testing.T) {
	values := []int{0, 1, -1, 2, 3, -7, 1 << 31, -1 << 31, 1<<31 + 1, 1 << 40, -1<<40 - 1, 1 << 62, maxInt, -maxInt}
	product := func(a, b int) *big.Int { return new(big.Int).Mul(big.NewInt(int64(a)), big.NewInt(int64(b))) }
	for _, a := range values {
		for _, b := range values {
			for _, c := range values {
				for _, d := range values {
					if want := product(a, b).CmpAbs(product(c, d)) < 0; lessProduct(a, b, c, d) != want {
						t.Fatal(a, b, c, d, !want)
					}
				}
			}
		}
	}
}

func TestDivision(t *testing.T) {
	for i, x := range []struct{ a, b, quotient, rest int }{
		{7, 2, 3, 1}, {-7, 2, -4, 1}, {6, 2, 3, 0}, {-6, 2, -3, 0}, {-1, 5, -1, 4}, {0, 5, 0, 0}, {4, 5, 0, 4}, {-5, 5, -1, 0},
	} {
		if q, r := floorDiv(x.a, x.b), floorMod(x.a, x.b); q != x.quotient || r != x.rest {
			t.Errorf("%d: %d and %d", i, q, r)
		}
	}
	for i, x := range []struct{ a, b, want int }{{0, 0, 0}, {0, -6, 6}, {-6, 0, 6}, {4, 6, 2}, {-4, 6, 2}, {-4, -6, 2}, {7, 5, 1}} {
		if g := gcd(x.a, x.b); g != x.want {
			t.Errorf("%d: %d", i, g)
		}
	}
}

// A pivot turns the equations round; a second one of the same kind turns them back.
func TestPivot(t *testing.T) {
	d := newDictionary(2)
	d.addRow(0, row(-6, 2, 3))
	d.addRow(1, row(4, -4, 0))
	before := d.clone()
	work := 1000
	if !d.pivot(0, columns, &work) {
		t.Fatal("no pivot")
	}
	// 2*x0 is row 0 minus 3*x1 plus 6; row 1 is 4 - 4*x0.
	want := [][]int{{2, 6, 1, -3}, {1, -8, -2, 6}}
	if !slices.EqualFunc(d.equations, want, slices.Equal) || !slices.Equal(d.basic, []int{-1, 1}) || !slices.Equal(d.free, []int{0, -2}) || !slices.Equal(d.cost, []int{2, 6, 1, -1}) {
		t.Error(d)
	}
	if work >= 1000 {
		t.Error("a pivot without work")
	}
	d.pivot(0, columns, &work)
	if !slices.EqualFunc(d.equations, before.equations, slices.Equal) || !slices.Equal(d.basic, before.basic) || !slices.Equal(d.free, before.free) || !slices.Equal(d.cost, before.cost) {
		t.Error(d)
	}
}

// A search whose numbers become too large, or whose work has been used up, gives up.
func TestGiveUp(t *testing.T) {
	large := newDictionary(2)
	large.addRow(0, row(-1, 1<<36, -3))
	large.addRow(1, row(-1, 1<<36-1, -1<<36+5))
	large.addRow(2, row(-1, -1<<36+9, 1<<36-7))
	work := 1000
	if state, _ := large.repair(&work); state != gaveUp {
		t.Error("the numbers of", large, "are too large")
	}
	small := newDictionary(1)
	small.addRow(0, row(-1, 1))
	work = -1
	if state, _ := small.repair(&work); state != gaveUp {
		t.Error("work without end")
	}
}
