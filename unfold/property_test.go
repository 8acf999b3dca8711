package unfold

import (
	"slices"
	"testing"

	"familycheck/api"
)

// processes returns a configuration that has nothing but processes.
func processes(correct int, states ...int) api.Config {
	return api.Config{States: states, Correct: correct}
}

// P3.11: Counts.
func TestCounts(t *testing.T) {
	p := family(t, flagText)
	for i, x := range []struct {
		c    api.Config
		want []int
		e    api.Errno
	}{
		{processes(3, 2, 0, 2), []int{1, 0, 2}, api.OK},
		{processes(1, 2, 0, 2), []int{0, 0, 1}, api.OK},
		{processes(0, 2, 0, 2), []int{0, 0, 0}, api.OK},
		{processes(0), []int{0, 0, 0}, api.OK},
		{processes(20, slices.Repeat([]int{1, 2}, 10)...), []int{0, 10, 10}, api.OK},
		{api.Config{Shape: []int{1}, States: []int{1}, Correct: 1, Sent: []int{-1}, Value: 9}, []int{0, 1, 0}, api.OK},
		{processes(1, 3), nil, api.ErrArg},
		{processes(0, -1), nil, api.ErrArg},
		{processes(1, 0, 3), nil, api.ErrArg},
		{processes(2, 0), nil, api.ErrArg},
		{processes(-1, 0), nil, api.ErrArg},
		{processes(minInt), nil, api.ErrArg},
	} {
		if got, e := Counts(p, x.c); e != x.e || !same(got, x.want) {
			t.Errorf("%d: error %d, %v", i, e, got)
		}
	}
}

type propertyCase struct {
	c    api.Config
	want bool
	e    api.Errno
}

func propertyCases(t *testing.T, name string, list []propertyCase, examine func(c api.Config) (bool, api.Errno)) {
	t.Helper()
	for i, x := range list {
		if got, e := examine(x.c); e != x.e || got != x.want {
			t.Errorf("%s %d: %v, error %d for %+v", name, i, got, e, x.c)
		}
	}
}

// P3.11: Bad in a Clique.
func TestBad(t *testing.T) {
	p := family(t, flagText)
	q := property(t, p, "property q never count 2 b c count 1 a")
	propertyCases(t, "clique", []propertyCase{
		{processes(3, 0, 1, 2), true, api.OK},
		{processes(3, 0, 2, 2), true, api.OK},
		{processes(3, 1, 1, 2), false, api.OK},
		{processes(3, 0, 0, 2), false, api.OK},
		{processes(2, 0, 1, 2), false, api.OK},
		{processes(3, 1, 1, 2, 0), false, api.OK},
		{processes(4, 1, 1, 2, 0), true, api.OK},
		{processes(0), false, api.OK},
		{api.Config{Shape: []int{1}, States: []int{0, 1, 2}, Correct: 3, Sent: []int{-1}, Faulty: []int{5, 5, 5}, Value: -7}, true, api.OK},
		{processes(1, 3), false, api.ErrArg},
		{processes(3, 0, 1, 2, -1), false, api.ErrArg},
		{processes(4, 0, 1, 2), false, api.ErrArg},
		{processes(-1, 0, 1, 2), false, api.ErrArg},
	}, func(c api.Config) (bool, api.Errno) { return Bad(p, q, c) })
}

// P3.11: Bad in a Line and a Ring.
func TestBadInRows(t *testing.T) {
	row, ring := family(t, lineText), family(t, tokText)
	next := property(t, row, "property q never adjacent a b")
	both := property(t, row, "property q never count 2 c adjacent a b")
	propertyCases(t, "line", []propertyCase{
		{processes(2, 0, 1), true, api.OK},
		{processes(2, 1, 0), false, api.OK},
		{processes(4, 1, 2, 0, 1), true, api.OK},
		{processes(4, 0, 2, 1, 0), false, api.OK},
		{processes(1, 0), false, api.OK},
		{processes(0), false, api.OK},
		// The neighbors need not be correct, and the shape is not looked at.
		{api.Config{Shape: []int{4}, States: []int{0, 1}}, true, api.OK},
		{processes(2, 0, 3), false, api.ErrArg},
	}, func(c api.Config) (bool, api.Errno) { return Bad(row, next, c) })
	propertyCases(t, "both", []propertyCase{
		{processes(4, 2, 0, 1, 2), true, api.OK},
		{processes(4, 2, 1, 0, 2), false, api.OK},
		{processes(3, 2, 0, 1), false, api.OK},
	}, func(c api.Config) (bool, api.Errno) { return Bad(row, both, c) })
	twice := property(t, ring, "property q never adjacent tk tk")
	order := property(t, ring, "property q never adjacent tk no")
	propertyCases(t, "ring", []propertyCase{
		{processes(1, 0), true, api.OK},
		{processes(3, 0, 1, 0), true, api.OK},
		{processes(4, 0, 1, 0, 1), false, api.OK},
		{processes(0), false, api.OK},
	}, func(c api.Config) (bool, api.Errno) { return Bad(ring, twice, c) })
	propertyCases(t, "order", []propertyCase{
		{processes(1, 0), false, api.OK},
		{processes(2, 1, 0), true, api.OK},
		{processes(3, 1, 1, 0), true, api.OK},
		{processes(3, 1, 1, 1), false, api.OK},
	}, func(c api.Config) (bool, api.Errno) { return Bad(ring, order, c) })
}

// P3.11: Bad in a Tree, which needs a shape.
func TestBadInTrees(t *testing.T) {
	p := family(t, treeText)
	next := property(t, p, "property q never adjacent a b")
	count := property(t, p, "property q never count 1 b")
	tree := func(shape []int, states ...int) api.Config {
		return api.Config{Shape: shape, States: states, Correct: len(states)}
	}
	three, five := []int{2, 0, 0}, []int{2, 0, 2, 0, 0}
	propertyCases(t, "next", []propertyCase{
		{tree(three, 0, 1, 0), true, api.OK},
		{tree(three, 0, 0, 1), true, api.OK},
		{tree(three, 1, 0, 0), false, api.OK},
		{tree(three, 2, 0, 1), false, api.OK},
		{tree(five, 2, 0, 0, 1, 2), true, api.OK},
		{tree(five, 2, 0, 0, 2, 1), true, api.OK},
		{tree(five, 2, 0, 2, 1, 1), false, api.OK},
		{tree(five, 2, 0, 1, 0, 0), false, api.OK},
		{tree([]int{0}, 0), false, api.OK},
		{tree(nil), false, api.ErrArg},
		{tree(nil, 0), false, api.ErrArg},
		{tree(three, 0, 1), false, api.ErrArg},
		{tree(three, 0, 1, 0, 0, 0), false, api.ErrArg},
		{tree([]int{0, 2, 0}, 0, 1, 0), false, api.ErrArg},
		{tree([]int{2, 2, 0}, 0, 1, 0), false, api.ErrArg},
		{tree([]int{2, 0, -2}, 0, 1, 0), false, api.ErrArg},
	}, func(c api.Config) (bool, api.Errno) { return Bad(p, next, c) })
	propertyCases(t, "count", []propertyCase{
		{tree(three, 0, 1, 0), true, api.OK},
		{tree(three, 0, 0, 0), false, api.OK},
		{tree(nil, 0, 1, 0), false, api.ErrArg},
		{tree(three, 0, 3, 0), false, api.ErrArg},
	}, func(c api.Config) (bool, api.Errno) { return Bad(p, count, c) })
}

// P3.11: the number of processes has no limit of its own.
func TestBadOfMany(t *testing.T) {
	row, oak := family(t, lineText), family(t, treeText)
	const inner = 1 << 18
	states := append(make([]int, 2*inner), 1)
	if got, e := Bad(row, property(t, row, "property q never adjacent a b"), processes(len(states), states...)); e != api.OK || !got {
		t.Errorf("%v, error %d", got, e)
	}
	c := processes(len(states), states...)
	c.Shape = append(slices.Repeat([]int{2}, inner), make([]int, inner+1)...)
	if got, e := Bad(oak, property(t, oak, "property q never adjacent a b"), c); e != api.OK || !got {
		t.Errorf("%v, error %d", got, e)
	}
	if got, e := Bad(oak, property(t, oak, "property q never adjacent b a"), c); e != api.OK || got {
		t.Errorf("%v, error %d", got, e)
	}
}

// P3.11: Reached.
func TestReached(t *testing.T) {
	p := family(t, flagText)
	q := property(t, p, "property q eventually goal a c")
	oak := family(t, treeText)
	propertyCases(t, "clique", []propertyCase{
		{processes(3, 0, 2, 0), true, api.OK},
		{processes(3, 0, 1, 0), false, api.OK},
		{processes(1, 0, 1, 1), true, api.OK},
		{processes(0, 1), true, api.OK},
		{processes(0), true, api.OK},
		{api.Config{Shape: []int{1}, States: []int{0}, Correct: 1, Sent: []int{-1}, Value: 9}, true, api.OK},
		{processes(1, 0, 3), false, api.ErrArg},
		{processes(1, -1), false, api.ErrArg},
		{processes(2, 0), false, api.ErrArg},
		{processes(-1, 0), false, api.ErrArg},
	}, func(c api.Config) (bool, api.Errno) { return Reached(p, q, c) })
	// The shape of a tree is not looked at.
	if got, e := Reached(oak, property(t, oak, "property q eventually goal a"), processes(2, 0, 0)); e != api.OK || !got {
		t.Errorf("%v, error %d", got, e)
	}
}

// P3.11: ErrClass comes before ErrArg.
func TestPropertyClass(t *testing.T) {
	p := family(t, flagText)
	never, goal := property(t, p, "property q never count 1 a"), property(t, p, "property q eventually goal a")
	for _, c := range []api.Config{processes(1, 0), processes(5, 0)} {
		if got, e := Bad(p, goal, c); e != api.ErrClass || got {
			t.Errorf("%v, error %d", got, e)
		}
		if got, e := Reached(p, never, c); e != api.ErrClass || got {
			t.Errorf("%v, error %d", got, e)
		}
	}
}

// P3.11: any configuration.
func TestPropertiesOfAnyConfig(t *testing.T) {
	x := newSource(5)
	held := map[bool]int{}
	for range 10000 {
		p := x.family(t)
		s, ok := x.size(p, 7)
		if !ok {
			continue
		}
		c := x.config(p, s)
		never, goal := x.property(t, p, api.Never), x.property(t, p, api.Eventually)
		bad := plainBad(p, never, c)
		if got, e := Bad(p, never, c); e != api.OK || got != bad {
			t.Fatalf("%v, error %d: %+v, %+v, %+v", got, e, p, never, c)
		}
		reached := plainReached(goal, c)
		if got, e := Reached(p, goal, c); e != api.OK || got != reached {
			t.Fatalf("%v, error %d: %+v, %+v, %+v", got, e, p, goal, c)
		}
		held[bad]++
		held[reached]++
	}
	if held[true] < 2000 || held[false] < 2000 {
		t.Error(held)
	}
}
