package tree

import (
	"testing"

	"familycheck/api"
	"familycheck/unfold"
)

// answers reports which of the trees of the texts an automaton accepts, as a text with + and - for each.
func answers(t testing.TB, a api.TreeAutomaton, trees ...string) string {
	t.Helper()
	var list string
	for _, text := range trees {
		shape, labels := treeOf(text)
		ok, e := Accepts(a, shape, labels)
		switch {
		case e != api.OK:
			t.Fatalf("error %d: %s", e, text)
		case ok:
			list += "+"
		default:
			list += "-"
		}
	}
	return list
}

// P7.6: each class of families and each kind of property.
func TestCheck(t *testing.T) {
	const local = "protocol p\ntopology clique\nstates a b\ninitial a\nrule r local a b\n"
	const line = "protocol p\ntopology line\nstates a b\ninitial a\nrule r pass a b b a right\n"
	const tree = "protocol p\ntopology tree\nstates a b\ninitial a\nrule r pass a b b a child\n"
	for i, x := range []struct {
		text, property string
		both, post     api.Errno
	}{
		{tree, "property q never count 1 a", api.OK, api.OK},
		{tree, "property q never adjacent a b", api.OK, api.OK},
		{tree, "property q eventually goal a", api.ErrClass, api.OK},
		{line, "property q never count 1 a", api.ErrClass, api.ErrClass},
		{replaced(t, line, "line", "ring"), "property q never count 1 a", api.ErrClass, api.ErrClass},
		{local, "property q never count 1 a", api.ErrClass, api.ErrClass},
		{local, "property q eventually goal a", api.ErrClass, api.ErrClass},
	} {
		p := family(t, x.text)
		q := property(t, p, x.property)
		a := accepted(t)(Minimal(api.TreeAutomaton{Letters: 2}))
		if e := Check(p, q); e != x.both {
			t.Errorf("%d: Check: error %d", i, e)
		}
		if _, e := InitialTrees(p, q); e != x.both {
			t.Errorf("%d: InitialTrees: error %d", i, e)
		}
		if _, e := BadTrees(p, q); e != x.both {
			t.Errorf("%d: BadTrees: error %d", i, e)
		}
		for rule, want := range map[int]api.Errno{0: api.OK, 1: api.ErrRule, -1: api.ErrRule, minInt: api.ErrRule, maxInt: api.ErrRule} {
			if x.post != api.OK {
				want = x.post
			}
			if got, e := Post(p, rule, a); e != want || e != api.OK && !isZero(got) {
				t.Errorf("%d: Post %d: error %d", i, rule, e)
			}
		}
	}
}

// P7.7: leaders and starts.
func TestInitialTrees(t *testing.T) {
	p := family(t, tokenText)
	a := accepted(t)(InitialTrees(p, property(t, p, "property q never count 2 tk")))
	// The states: the token alone or at the root; none; anything else.
	if a.States != 3 || !same(a.Accept, ints(0)) || !same(a.Leaves, []api.Leaf{{Letter: 0, To: 0}, {Letter: 1, To: 1}}) {
		t.Error(a)
	}
	const text = "protocol p\ntopology tree\nstates a b c\ninitial a b\n"
	for i, x := range []struct {
		text, start string
		states      int
		want        string
	}{
		{text, "", 2, "++-++++----"},
		{text, "start b ", 2, "-+-+-------"},
		{text + "leader c\n", "", 3, "--+----++--"},
		{text + "leader b c\n", "start a ", 3, "-++--+-----"},
		{text + "leader a b\n", "start a ", 3, "++---+-----"},
		{text + "leader a b c\n", "", 3, "+++++++++--"},
		{text + "leader a b\n", "", 2, "++-++++----"},
	} {
		p := family(t, x.text)
		a := accepted(t)(InitialTrees(p, property(t, p, "property q never "+x.start+"count 1 a")))
		got := answers(t, a, "0,", "1,", "2,", "11,1,", "10,1,", "10,0,", "01,00,1,", "21,1,", "201,0,1,", "02,0,", "02,2,")
		if a.States != x.states || got != x.want {
			t.Errorf("%d: %s, not %s: %v", i, got, x.want, a)
		}
	}
	// All letters: all trees.
	p = family(t, "protocol p\ntopology tree\nstates a b\ninitial a b\n")
	if a := accepted(t)(InitialTrees(p, property(t, p, "property q never count 1 a"))); a.States != 1 || !same(a.Accept, ints(0)) {
		t.Error(a)
	}
}

// P7.7: counts, and neighbors, of which the first is the parent.
func TestBadTrees(t *testing.T) {
	p := family(t, "protocol p\ntopology tree\nstates a b c\ninitial a b\n")
	for i, x := range []struct{ bad, want string }{
		{"count 1 a", "+--++-+++++"},
		{"count 2 a", "---+---+-++"},
		{"count 3 a b", "---+++++-++"},
		{"count 2 b c", "----++++++-"},
		{"count 1 a b count 1 c", "------+++--"},
		{"count 1 a count 1 b count 1 c", "------+++--"},
		{"adjacent a b", "----+--+---"},
		{"adjacent b a", "-------+-++"},
		{"adjacent a a", "---+-----+-"},
		{"adjacent b b", "-----+---+-"},
		{"adjacent c b", "------+-+--"},
		{"count 2 a adjacent a b", "-------+---"},
		{"count 1 c adjacent b c", "-------+---"},
	} {
		a := accepted(t)(BadTrees(p, property(t, p, "property q never "+x.bad)))
		if got := answers(t, a, "0,", "1,", "2,", "00,0,", "01,1,", "11,1,", "02,21,1,", "010,2,2,", "20,1,", "1100,0,1,1,", "10,0,"); got != x.want {
			t.Errorf("%d: %s, not %s", i, got, x.want)
		}
	}
}

// P7.7: the automata of bad trees with the most states: 64 for the numbers of three counts, and too many with neighbors; that does not stop what uses them.
func TestLargestBadTrees(t *testing.T) {
	p := family(t, "protocol p\ntopology tree\nstates a b c d e f\ninitial d\n")
	q := property(t, p, "property q never count 3 a count 3 b count 3 c")
	a := accepted(t)(BadTrees(p, q))
	if a.States != 64 || len(a.Accept) != 1 {
		t.Error(a.States)
	}
	large := property(t, p, "property q never count 3 a count 3 b count 3 c adjacent d e")
	if a, e := BadTrees(p, large); e != api.ErrLarge || !isZero(a) {
		t.Error(a.States, e)
	}
	if e := second(InitialTrees(p, large)); e != api.OK {
		t.Error(e)
	}
	kind, proof, e := Prove(p, large, 2, 2)
	if kind != api.Holds || e != api.OK || !CheckAutomaton(p, large, proof) {
		t.Error(kind, e)
	}
	if a, done, e := Forward(p, large, 2, 2); e != api.OK || !done || !same(a, proof) {
		t.Error(a, done, e)
	}
	all := accepted(t)(Complement(accepted(t)(Minimal(api.TreeAutomaton{Letters: 6}))))
	if CheckAutomaton(p, large, all) || CheckAutomaton(p, q, all) {
		t.Error("bad trees are accepted")
	}
	// Numbers of states on both sides of the limit.
	for i, x := range []struct {
		bad    string
		states int // 0: too many
	}{
		{"count 3 a count 3 b count 2 c adjacent d e", 0},
		{"count 3 a count 3 b count 1 c", 32},
		{"count 3 a count 3 b adjacent d e", 48},
		{"count 3 a count 2 b count 1 c adjacent d e", 0},
		{"count 2 a count 2 b count 1 c adjacent d e", 54},
		{"count 3 a count 1 b count 1 c adjacent d e", 48},
	} {
		a, e := BadTrees(p, property(t, p, "property q never "+x.bad))
		if (e == api.ErrLarge) != (x.states == 0) || a.States != x.states {
			t.Errorf("%d: %d states, error %d", i, a.States, e)
		}
	}
}

// P7.7: random families, against all trees of small sizes and some larger ones, and the system of as many processes.
func TestFamiliesPlainly(t *testing.T) {
	x := newSource(5)
	seen := map[string]int{}
	for range 400 {
		p := x.family(t, 3, 0)
		q := x.property(t, p)
		first, bad := accepted(t)(InitialTrees(p, q)), accepted(t)(BadTrees(p, q))
		if !same(first, plainCanonical(first)) {
			t.Fatalf("%v: %+v, %+v", first, p, q)
		}
		if small := accepted(t)(Minimal(bad)); !same(bad, small) {
			t.Fatalf("%v: %+v, %+v", bad, p, q)
		}
		list := plainTreesTo(len(p.States), 5)
		for range 30 {
			list = append(list, x.tree(len(p.States), x.between(3, 9)))
		}
		for _, w := range list {
			shape, labels := w.shape(), w.labels()
			wantFirst, wantBad := plainInitial(p, q, w), plainBad(q, w)
			gotFirst, e := Accepts(first, shape, labels)
			gotBad, e2 := Accepts(bad, shape, labels)
			if e != api.OK || e2 != api.OK || gotFirst != wantFirst || gotBad != wantBad {
				t.Fatalf("%v: %v, %v: %+v, %+v", w, gotFirst, gotBad, p, q)
			}
			if is, e := unfold.Bad(p, q, api.Config{Shape: shape, States: labels, Correct: len(labels)}); e != api.OK || is != wantBad {
				t.Fatalf("%v: %v, error %d: %+v, %+v", w, is, e, p, q)
			}
			if wantBad {
				seen["bad"]++
			}
			if wantFirst {
				seen["initial"]++
			}
		}
		for n := 1; n <= 5; n += 2 {
			configs, e := unfold.Initial(p, q, api.Size{N: n})
			initial := 0
			for _, w := range plainTrees(len(p.States), n) {
				if plainInitial(p, q, w) {
					initial++
				}
			}
			if e != api.OK || len(configs) != initial {
				t.Fatalf("%d, not %d, error %d: %+v, %+v", initial, len(configs), e, p, q)
			}
			for _, c := range configs {
				if ok, e := Accepts(first, c.Shape, c.States); e != api.OK || !ok {
					t.Fatalf("%v: %+v, %+v", c, p, q)
				}
			}
		}
	}
	if seen["bad"] < 5000 || seen["initial"] < 5000 {
		t.Error(seen)
	}
}
