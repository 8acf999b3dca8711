package unfold

import (
	"slices"
	"testing"

	"familycheck/api"
)

// P3.1
func TestModeled(t *testing.T) {
	st, mx := family(t, stText), family(t, mxText)
	crash := family(t, "protocol p\ntopology clique\nstates a\nfaults crash\ninitial a\n")
	omission := family(t, "protocol p\ntopology clique\nstates a\nfaults omission\ninitial a\n")
	arbitrary := family(t, "protocol p\ntopology clique\nstates a\nfaults arbitrary\ninitial a\n")
	unnamed := family(t, mxText)
	unnamed.Name = ""
	for i, x := range []struct {
		p    api.Protocol
		s    api.Size
		want int
	}{
		{mx, size(1, 0, 0), 1}, {mx, size(8, 0, 0), 8},
		{st, size(4, 1, 1), 3}, {st, size(4, 1, 0), 4}, {arbitrary, size(8, 8, 8), 0}, {arbitrary, size(8, 0, 3), 5},
		{crash, size(5, 0, 3), 5}, {crash, size(5, 5, 5), 5}, {omission, size(5, 1, 4), 5},
		{family(t, lineText), size(7, 0, 0), 7}, {family(t, tokText), size(6, 0, 0), 6}, {family(t, treeText), size(5, 0, 0), 5},
		// The errors of R2.
		{unnamed, size(2, 0, 0), 0}, {st, size(3, 1, 1), 0}, {mx, size(2, 0, 1), 0}, {mx, size(9, 0, 0), 0},
		{mx, size(0, 0, 0), 0}, {mx, size(-1, 0, 0), 0}, {mx, size(maxInt, 0, 0), 0}, {family(t, treeText), size(4, 0, 0), 0},
	} {
		if got := Modeled(x.p, x.s); got != x.want {
			t.Errorf("%d: %d, not %d", i, got, x.want)
		}
	}
}

// P3.2
func TestShapes(t *testing.T) {
	for n := 1; n <= api.MaxProcesses; n++ {
		got, e := Shapes(n)
		if e != api.OK || !same(got, plainShapes(n)) {
			t.Errorf("%d: error %d, %v", n, e, got)
		}
	}
	if got, _ := Shapes(7); len(got) != 5 {
		t.Error(got)
	}
	if got, e := Shapes(5); e != api.OK || !same(got, [][]int{{2, 0, 2, 0, 0}, {2, 2, 0, 0, 0}}) || !apart(got) {
		t.Errorf("error %d, %v", e, got)
	}
	for _, n := range []int{0, -1, 9, 64, minInt, maxInt} {
		if got, e := Shapes(n); e != api.ErrArg || got != nil {
			t.Errorf("%d: error %d, %v", n, e, got)
		}
	}
}

func neighbors(topology int, shape []int, count, i int) [3]int {
	first, second, parent := Neighbors(topology, shape, count, i)
	return [3]int{first, second, parent}
}

// P3.3
func TestNeighbors(t *testing.T) {
	shapes := [][]int{nil}
	for n := 1; n <= 7; n += 2 {
		shapes = append(shapes, plainShapes(n)...)
	}
	for topology := -1; topology <= 6; topology++ {
		for _, shape := range shapes {
			for count := -1; count <= 8; count++ {
				for i := -2; i <= 9; i++ {
					got, want := neighbors(topology, shape, count, i), plainNeighbors(topology, shape, count, i)
					if got != want {
						t.Fatalf("topology %d, shape %v, process %d of %d: %v, not %v", topology, shape, i, count, got, want)
					}
				}
			}
		}
	}
}

func TestNeighborsInOtherLists(t *testing.T) {
	var lists [][]int
	longer := [][]int{nil}
	for range 5 {
		var next [][]int
		for _, list := range longer {
			for x := -1; x <= 3; x++ {
				next = append(next, append(slices.Clone(list), x))
			}
		}
		lists, longer = append(lists, next...), next
	}
	for _, list := range lists {
		for i := range list {
			if got, want := neighbors(api.Tree, list, len(list), i), plainNeighbors(api.Tree, list, len(list), i); got != want {
				t.Fatalf("%v, process %d: %v, not %v", list, i, got, want)
			}
		}
	}
	for _, list := range [][]int{{minInt, 0, 0}, {maxInt, 0, 0}, {2, maxInt, minInt}} {
		if got := neighbors(api.Tree, list, 3, 0); got != [3]int{-1, -1, -1} {
			t.Errorf("%v: %v", list, got)
		}
	}
}

// Neighbors has no limit of its own, and its time is not that of a search.
func TestNeighborsOfMany(t *testing.T) {
	for _, x := range []struct {
		topology, count, i int
		want               [3]int
	}{
		{api.Line, maxInt, 0, [3]int{-1, 1, -1}},
		{api.Line, maxInt, maxInt - 1, [3]int{maxInt - 2, -1, -1}},
		{api.Line, maxInt, maxInt, [3]int{-1, -1, -1}},
		{api.Ring, maxInt, 0, [3]int{maxInt - 1, 1, -1}},
		{api.Ring, maxInt, maxInt - 1, [3]int{maxInt - 2, 0, -1}},
		{api.Ring, minInt, -1, [3]int{-1, -1, -1}},
		{api.Tree, maxInt, 0, [3]int{-1, -1, -1}},
		{minInt, 3, 1, [3]int{-1, -1, -1}},
	} {
		if got := neighbors(x.topology, nil, x.count, x.i); got != x.want {
			t.Errorf("%+v: %v", x, got)
		}
	}
	// A tree whose every first child has children, and one whose every second child has.
	const inner = 1 << 20
	left := append(slices.Repeat([]int{2}, inner), make([]int, inner+1)...)
	right := append(slices.Repeat([]int{2, 0}, inner), 0)
	count := len(left)
	for _, x := range []struct {
		shape []int
		i     int
		want  [3]int
	}{
		{left, 0, [3]int{1, count - 1, -1}},
		{left, inner - 1, [3]int{inner, inner + 1, inner - 2}},
		{left, inner + 2, [3]int{-1, -1, inner - 2}},
		{right, 0, [3]int{1, 2, -1}},
		{right, count - 1, [3]int{-1, -1, count - 3}},
	} {
		if got := neighbors(api.Tree, x.shape, count, x.i); got != x.want {
			t.Errorf("process %d: %v, not %v", x.i, got, x.want)
		}
	}
}
