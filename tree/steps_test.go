package tree

import (
	"slices"
	"strings"
	"testing"

	"familycheck/api"
	"familycheck/unfold"
)

// write is the text of a tree, as treeOf reads it.
func write(shape, labels []int) string {
	var text strings.Builder
	for i, children := range shape {
		text.WriteByte(byte('0' + labels[i]))
		if children == 0 {
			text.WriteByte(',')
		}
	}
	return text.String()
}

// only accepts one tree. It is complete and deterministic.
func only(t testing.TB, letters int, x plainTree) api.TreeAutomaton {
	t.Helper()
	a := api.TreeAutomaton{Letters: letters}
	var add func(x plainTree) int
	add = func(x plainTree) int {
		if len(x.kids) == 0 {
			a.Leaves = append(a.Leaves, api.Leaf{Letter: x.label, To: a.States})
		} else {
			first, second := add(x.kids[0]), add(x.kids[1])
			a.Branches = append(a.Branches, api.Branch{Letter: x.label, First: first, Second: second, To: a.States})
		}
		a.States++
		return a.States - 1
	}
	a.Accept = ints(add(x))
	a = accepted(t)(Minimal(a))
	if a.States > api.MaxForward {
		t.Fatalf("%d states: %v", a.States, x)
	}
	return a
}

// sameShape returns the trees with the shape of x and all labels.
func sameShape(letters int, x plainTree) []plainTree {
	if len(x.kids) == 0 {
		return plainTrees(letters, 1)
	}
	var all []plainTree
	for label := range letters {
		for _, first := range sameShape(letters, x.kids[0]) {
			for _, second := range sameShape(letters, x.kids[1]) {
				all = append(all, plainTree{label, []plainTree{first, second}})
			}
		}
	}
	return all
}

// plainRead returns the tree of a text.
func plainRead(text string) plainTree {
	var read func() plainTree
	read = func() plainTree {
		x := plainTree{label: int(text[0] - '0')}
		text = text[1:]
		if text[0] == ',' {
			text = text[1:]
			return x
		}
		first := read()
		return plainTree{x.label, []plainTree{first, read()}}
	}
	return read()
}

// successors returns the texts of what Post accepts after one tree, in ascending order.
func successors(t testing.TB, p api.Protocol, rule int, x plainTree) []string {
	t.Helper()
	letters := len(p.States)
	post := accepted(t)(Post(p, rule, only(t, letters, x)))
	var list []string
	for _, next := range sameShape(letters, x) {
		ok, e := Accepts(post, next.shape(), next.labels())
		if e != api.OK {
			t.Fatalf("error %d", e)
		}
		if ok {
			list = append(list, write(next.shape(), next.labels()))
		}
	}
	slices.Sort(list)
	return list
}

// unfolded returns the texts of the configurations that a step leads to in the system of as many processes.
func unfolded(t testing.TB, p api.Protocol, rule int, x plainTree) []string {
	t.Helper()
	c := api.Config{Shape: x.shape(), States: x.labels(), Correct: len(x.shape())}
	size := api.Size{N: c.Correct}
	steps, e := unfold.Steps(p, size, c)
	if e != api.OK {
		t.Fatalf("error %d", e)
	}
	var list []string
	for _, s := range steps {
		if s.Rule == rule {
			next, e := unfold.Apply(p, size, c, s)
			if e != api.OK {
				t.Fatalf("error %d", e)
			}
			list = append(list, write(next.Shape, next.States))
		}
	}
	slices.Sort(list)
	return slices.Compact(list)
}

func plainTexts(list []plainTree) []string {
	var texts []string
	for _, x := range list {
		texts = append(texts, write(x.shape(), x.labels()))
	}
	slices.Sort(texts)
	return slices.Compact(texts)
}

// P7.7: what one rule does to some trees.
func TestPost(t *testing.T) {
	const head = "protocol p\ntopology tree\nstates a b\ninitial a\nrule r "
	for _, x := range []struct {
		rule string
		next map[string]string // the texts of the next trees, separated by blanks
	}{
		{"neighbor a b", map[string]string{"0,": "1,", "1,": "", "00,0,": "00,1, 01,0, 10,0,", "11,0,": "11,1,", "01,00,1,": "01,01,1, 01,10,1, 11,00,1,"}},
		{"neighbor a a", map[string]string{"0,": "0,", "1,": "", "00,0,": "00,0,", "11,1,": "", "11,0,": "11,0,"}},
		{"neighbor a b at first", map[string]string{"0,": "1,", "1,": "", "00,0,": "10,0,", "10,0,": "", "000,0,0,": "100,0,0,"}},
		{"neighbor a b at last", map[string]string{"0,": "1,", "1,": "", "00,0,": "00,1, 01,0,", "01,1,": "", "000,1,0,": "000,1,1, 001,1,0,"}},
		{"neighbor a b left b", map[string]string{"0,": "", "01,0,": "11,0,", "00,1,": "", "001,0,0,": "011,0,0,", "00,01,0,": "00,11,0,"}},
		{"neighbor a b right b", map[string]string{"0,": "", "00,1,": "10,1,", "01,0,": "", "000,1,0,": "010,1,0,", "00,00,1,": "00,10,1,"}},
		{"neighbor a b left a right b", map[string]string{"0,": "", "00,1,": "10,1,", "01,0,": "", "00,0,": "", "01,1,": "", "10,00,1,": "10,10,1,"}},
		{"neighbor a b left a b", map[string]string{"0,": "", "00,1,": "10,1,", "01,0,": "11,0,"}},
		{"neighbor a b at last left a b", map[string]string{"0,": "", "00,0,": ""}},
		{"neighbor a b at last right a", map[string]string{"0,": "", "00,0,": ""}},
		{"neighbor a b at first right b", map[string]string{"0,": "", "00,1,": "10,1,", "00,00,1,": "", "01,00,1,": ""}},
		{"neighbor a b parent b", map[string]string{"0,": "", "10,0,": "10,1, 11,0,", "00,0,": "", "10,00,0,": "10,10,0, 11,00,0,", "010,0,0,": "010,1,0, 011,0,0,"}},
		{"neighbor a b parent a", map[string]string{"0,": "", "00,0,": "00,1, 01,0,", "10,0,": "", "00,00,1,": "00,01,1, 00,10,1, 01,00,1,"}},
		{"neighbor a b at first parent a b", map[string]string{"0,": "", "00,0,": "", "10,0,": ""}},
		{"neighbor a b at last parent b", map[string]string{"0,": "", "10,0,": "10,1, 11,0,", "10,00,0,": "11,00,0,"}},
		{"neighbor a b left b parent b", map[string]string{"01,0,": "", "10,01,0,": "10,11,0,", "00,01,0,": "", "11,01,0,": "11,11,0,"}},
		{"neighbor a b left b right a parent a b", map[string]string{"01,0,": "", "10,01,0,": "10,11,0,", "10,00,1,": "", "000,0,0,": ""}},
		{"pass a b b a child", map[string]string{"0,": "", "01,1,": "10,1, 11,0,", "10,1,": "", "00,01,1,": "00,10,1, 00,11,0,", "00,11,1,": "10,01,1,"}},
		{"pass a b b a parent", map[string]string{"0,": "", "10,0,": "00,1, 01,0,", "01,1,": "", "00,10,0,": "00,00,1, 00,01,0,", "11,00,0,": "01,10,0,"}},
		{"pass a a b b child", map[string]string{"01,0,": "01,0,", "00,0,": "", "10,0,": "", "00,01,0,": "00,01,0,"}},
		{"pass a b a b child", map[string]string{"00,0,": "10,1, 11,0,", "01,0,": "11,1,", "10,0,": ""}},
		{"pass a b a b parent", map[string]string{"00,0,": "10,1, 11,0,", "01,0,": "11,1,", "10,0,": ""}},
	} {
		p := family(t, head+x.rule+"\n")
		for tree, want := range x.next {
			if got := strings.Join(successors(t, p, 0, plainRead(tree)), " "); got != want {
				t.Errorf("%s: %s: %q, not %q", x.rule, tree, got, want)
			}
		}
	}
}

// P7.7: every kind of rule, against the unfolded systems and plain steps.
func TestPostUnfolded(t *testing.T) {
	x := newSource(6)
	kept := 0
	for i := range 120 {
		p := x.family(t, 3, 4)
		if i == 0 {
			p = family(t, treeText)
		}
		letters := len(p.States)
		list := plainTreesTo(letters, 3)
		for range 4 {
			list = append(list, x.tree(letters, 2), x.tree(letters, 3))
		}
		for rule, r := range p.Rules {
			for _, tree := range list {
				got := successors(t, p, rule, tree)
				if want := unfolded(t, p, rule, tree); !same(got, want) || !same(got, plainTexts(plainNext(r, tree, -1))) {
					t.Fatalf("%v: %v, not %v: %+v, %+v", tree, got, want, p, r)
				}
				kept += len(got)
			}
		}
	}
	if kept < 1500 {
		t.Error(kept)
	}
}

// P7.7: random automata and rules, against a plain automaton and the steps from small trees.
func TestPostPlainly(t *testing.T) {
	x := newSource(7)
	seen := map[string]int{}
	for range 1500 {
		p := x.family(t, 2, 1)
		if len(p.Rules) == 0 {
			continue
		}
		letters := len(p.States)
		a := x.complete(letters, 3)
		got, e := Post(p, 0, a)
		want := plainCanonical(plainPost(p.Rules[0], a))
		if want.States > api.MaxAutomaton {
			seen["large"]++
			if e != api.ErrLarge || !isZero(got) {
				t.Fatalf("%v, error %d: %+v, %v", got, e, p, a)
			}
			continue
		}
		if e != api.OK || !same(got, want) {
			t.Fatalf("%v, error %d, not %v: %+v, %v", got, e, want, p, a)
		}
		if got.States > 1 {
			seen["more"]++
		}
		checkPost(t, p, a, got, plainTreesTo(letters, 5))
	}
	if seen["more"] < 400 {
		t.Error(seen)
	}
}

// checkPost wants that post accepts what the steps lead to from those of the trees that a accepts. The trees have to be all of some sizes.
func checkPost(t *testing.T, p api.Protocol, a, post api.TreeAutomaton, trees []plainTree) {
	t.Helper()
	next := map[string]bool{}
	for _, tree := range trees {
		if plainAccepts(a, tree) {
			for _, text := range plainTexts(plainNext(p.Rules[0], tree, -1)) {
				next[text] = true
			}
		}
	}
	for _, tree := range trees {
		text := write(tree.shape(), tree.labels())
		if plainAccepts(post, tree) != next[text] {
			t.Fatalf("%s: %v: %+v, %v", text, next[text], p, a)
		}
	}
}

// P7.7: what is wrong with an automaton, in the order of the errors.
func TestPostErrors(t *testing.T) {
	p := family(t, tokenText)
	three := cloned(oneToken())
	three.Letters = 3
	for i, x := range []struct {
		p    api.Protocol
		rule int
		a    api.TreeAutomaton
		want api.Errno
	}{
		{p, 0, oneToken(), api.OK},
		{p, 2, oneToken(), api.ErrRule},
		{p, 2, api.TreeAutomaton{}, api.ErrRule},
		{p, 0, api.TreeAutomaton{}, api.ErrArg},
		{p, 0, three, api.ErrArg},
		{p, 0, cycle(2, 0), api.ErrArg},
		{p, 0, far(2), api.ErrArg},
		{p, 0, far(7), api.ErrArg},
		{p, 0, accepted(t)(Minimal(far(3))), api.OK},     // 8 states
		{p, 0, accepted(t)(Minimal(far(4))), api.ErrArg}, // 16 states
		{family(t, "protocol p\ntopology line\nstates a b\ninitial a\n"), 0, api.TreeAutomaton{}, api.ErrClass},
		{api.Protocol{}, 0, api.TreeAutomaton{}, api.ErrName},
	} {
		if got, e := Post(x.p, x.rule, x.a); e != x.want || e != api.OK && !isZero(got) {
			t.Errorf("%d: error %d, not %d", i, e, x.want)
		}
	}
}

// turning is a complete deterministic automaton: each letter has a permutation of the sums of the states of the children. It accepts what has not the state 0.
func turning(permutations ...[]int) api.TreeAutomaton {
	a := api.TreeAutomaton{Letters: len(permutations), States: len(permutations[0])}
	for i := 1; i < a.States; i++ {
		a.Accept = append(a.Accept, i)
	}
	for letter, turn := range permutations {
		a.Leaves = append(a.Leaves, api.Leaf{Letter: letter, To: turn[0]})
		for i := range a.States {
			for j := range a.States {
				a.Branches = append(a.Branches, api.Branch{Letter: letter, First: i, Second: j, To: turn[(i+j)%a.States]})
			}
		}
	}
	return a
}

// digits returns a complete deterministic automaton: a text for each letter has the state of its leaf and those of its branches.
func digits(states int, accept []int, letters ...string) api.TreeAutomaton {
	a := api.TreeAutomaton{Letters: len(letters), States: states, Accept: accept}
	for letter, text := range letters {
		a.Leaves = append(a.Leaves, api.Leaf{Letter: letter, To: int(text[0] - '0')})
		for i := range states * states {
			a.Branches = append(a.Branches, api.Branch{Letter: letter, First: i / states, Second: i % states, To: int(text[i+1] - '0')})
		}
	}
	return a
}

// P7.7: up to MaxAutomaton states of the result.
func TestPostLimit(t *testing.T) {
	const head = "protocol p\ntopology tree\nstates a b\ninitial a\nrule r "
	for i, x := range []struct {
		rule   string
		a      api.TreeAutomaton
		states int
	}{
		{"neighbor b a left a b", digits(4, ints(2, 3), "33112330122013232", "12113321303010130"), 64},
		{"pass b a a b parent", digits(3, ints(1), "1211002012", "2000000201"), 65},
		{"neighbor a b at last parent b", digits(4, ints(0, 1, 3), "13033133013000330", "22321313021002110"), 65},
	} {
		p := family(t, head+x.rule+"\n")
		want := plainCanonical(plainPost(p.Rules[0], x.a))
		if want.States != x.states {
			t.Fatalf("%d: %d states", i, want.States)
		}
		got, e := Post(p, 0, x.a)
		if x.states > api.MaxAutomaton {
			want = api.TreeAutomaton{}
		}
		if (e == api.ErrLarge) != (x.states > api.MaxAutomaton) || !same(got, want) {
			t.Errorf("%d: %d states, error %d", i, got.States, e)
		}
	}
}

// P7.7: far more subsets than states are no reason for ErrLarge, and do not take long; neither do automata with far too many states.
func TestPostManySubsets(t *testing.T) {
	const head = "protocol p\ntopology tree\nstates a b\ninitial a\nrule r neighbor a b"
	x := newSource(8)
	for i, y := range []struct {
		rule   string
		a      api.TreeAutomaton
		states int
	}{
		{"", turning(ints(4, 6, 7, 2, 5, 1, 0, 3), ints(1, 2, 5, 3, 6, 4, 0, 7)), 58}, // 2033 subsets
		{" right a b parent a b", turning(ints(2, 7, 3, 1, 6, 5, 4, 0), ints(2, 7, 6, 3, 1, 0, 4, 5)), 61},
	} {
		p := family(t, head+y.rule+"\n")
		got := accepted(t)(Post(p, 0, y.a))
		if got.States != y.states || !same(got, accepted(t)(Minimal(got))) {
			t.Errorf("%d: %d states", i, got.States)
		}
		plain := plainPost(p.Rules[0], y.a)
		both := map[bool]int{}
		for range 300 {
			tree := x.tree(2, x.between(0, 9))
			want := plainAccepts(plain, tree)
			if ok, e := Accepts(got, tree.shape(), tree.labels()); ok != want || e != api.OK {
				t.Fatalf("%d: %v: %v, error %d", i, tree, ok, e)
			}
			both[want]++
		}
		if both[true] < 20 || both[false] < 20 {
			t.Error(i, both)
		}
	}
	large := 0
	for range 200 {
		p := x.family(t, 6, 1)
		if len(p.Rules) > 0 && second(Post(p, 0, x.complete(len(p.States), 8))) == api.ErrLarge {
			large++
		}
	}
	if large < 5 {
		t.Error(large)
	}
}
