package cover

import (
	"testing"

	"familycheck/api"
	"familycheck/unfold"
)

// P5.7: properties with one and with several counts, with and without values.
func TestBadElements(t *testing.T) {
	mx, infect := family(t, mxText), family(t, infectText)
	three := family(t, replaced(t, mxText, "free held", "free held lost"))
	for i, x := range []struct {
		p        api.Protocol
		property string
		want     []api.Element
	}{
		{mx, "property q never count 2 c", elements(element(0, 0, 0, 2), element(1, 0, 0, 2))},
		{three, "property q never count 1 w", elements(element(0, 0, 1, 0), element(1, 0, 1, 0), element(2, 0, 1, 0))},
		{infect, "property q never count 1 i count 1 s", elements(element(0, 1, 1))},
		{infect, "property q never count 2 s i", elements(element(0, 0, 2), element(0, 1, 1), element(0, 2, 0))},
		{infect, "property q never count 3 s count 2 s", elements(element(0, 3, 0))},
		{infect, "property q never count 1 s count 1 s i", elements(element(0, 1, 0))},
		{infect, "property q never count 1 s i count 1 s i", elements(element(0, 0, 1), element(0, 1, 0))},
		{infect, "property q never count 1 s count 2 s i", elements(element(0, 1, 1), element(0, 2, 0))},
		{infect, "property q never start s count 1 i", elements(element(0, 0, 1))},
	} {
		if l, e := BadElements(x.p, property(t, x.p, x.property)); !same(l, x.want) || e != api.OK {
			t.Errorf("%d: %v, error %d", i, l, e)
		}
	}
}

// P5.7: there is no limit on their number.
func TestManyBadElements(t *testing.T) {
	for i, x := range []struct {
		values, property string
		want             int
	}{
		{"", "property q never count 3 a b c d e f", 56},
		{"", "property q never count 3 a b c count 3 d e f", 100},
		{"values lo hi\n", "property q never count 3 a b count 3 b c d f count 3 a c d e f", 102},
		{"values lo mid hi\n", "property q never count 3 a b c d e f", 168},
		{"values lo mid hi\n", "property q never count 3 a b c count 3 d e f", 300},
	} {
		p := family(t, replaced(t, sixText, "initial", x.values+"initial"))
		q := property(t, p, x.property)
		l, e := BadElements(p, q)
		if len(l) != x.want || e != api.OK || !same(l, plainBad(p, q)) {
			t.Errorf("%d: %d elements, error %d", i, len(l), e)
		}
		_, _, e = Backward(p, q, 3)
		if want := map[bool]api.Errno{true: api.ErrLarge, false: api.OK}[x.want > api.MaxBasis]; e != want {
			t.Errorf("%d: error %d, not %d", i, e, want)
		}
	}
}

// plainBad returns the bad elements that are not bad with one process less; none of their counts is above 3.
func plainBad(p api.Protocol, q api.Property) []api.Element {
	var list []api.Element
	var add func(e api.Element)
	add = func(e api.Element) {
		if len(e.Counts) < len(p.States) {
			for count := range 4 {
				longer := cloned(e)
				longer.Counts = append(longer.Counts, count)
				add(longer)
			}
			return
		}
		if !plainIsBad(q, e) {
			return
		}
		for state, count := range e.Counts {
			less := cloned(e)
			less.Counts[state]--
			if count > 0 && plainIsBad(q, less) {
				return
			}
		}
		list = append(list, e)
	}
	for value := range plainValues(p) {
		add(api.Element{Value: value})
	}
	return plainSorted(list)
}

// P5.7: all properties of a source.
func TestBadElementsPlain(t *testing.T) {
	x := newSource(10)
	for range 200 {
		p := x.family(t, 4, false)
		q := x.property(t, p, 3)
		if l, e := BadElements(p, q); !same(l, plainBad(p, q)) || e != api.OK {
			t.Fatalf("%v, error %d: %+v %+v", l, e, p, q)
		}
	}
	for range 60 {
		p := x.family(t, 3, false)
		q := x.property(t, p, 3)
		var bad []api.Element
		for _, e := range plainElements(p, 1, 9) {
			if plainIsBad(q, e) {
				bad = append(bad, e)
			}
		}
		if l, e := BadElements(p, q); !same(l, plainMinimal(bad)) || e != api.OK {
			t.Fatalf("%v, error %d: %+v %+v", l, e, p, q)
		}
	}
}

// P5.9, P5.10: the document's example 1, round by round.
func TestRounds(t *testing.T) {
	p := family(t, mxText)
	q := property(t, p, "property q never count 2 c")
	free2, held2 := element(0, 0, 0, 2), element(1, 0, 0, 2)
	rounds := [][]api.Element{
		elements(free2, held2),
		elements(free2, element(0, 0, 1, 1), held2),
		elements(free2, element(0, 0, 1, 1), element(0, 1, 0, 1), held2),
	}
	for i, x := range []struct{ rounds, k int }{{minInt, 0}, {-1, 0}, {0, 0}, {1, 1}, {2, 2}, {3, 2}, {99, 2}, {api.MaxRounds, 2}} {
		want := Result{Rounds: x.k}
		if x.rounds >= 2 {
			want.Verdict, want.Basis = api.Holds, rounds[2]
		}
		l, done, e := Backward(p, q, x.rounds)
		if !same(l, rounds[x.k]) || done != (x.rounds >= 2) || e != api.OK {
			t.Errorf("%d: %v, %v, error %d", i, l, done, e)
		}
		if r, e := Solve(p, q, x.rounds); !same(r, want) || e != api.OK {
			t.Errorf("%d: %v, error %d", i, r, e)
		}
	}
	for _, rounds := range []int{api.MaxRounds + 1, maxInt} {
		if l, done, e := Backward(p, q, rounds); len(l) != 0 || done || e != api.ErrArg {
			t.Errorf("%d rounds: error %d", rounds, e)
		}
	}
}

// P5.9: MaxBasis itself and one above it, in each of the bases that are needed and in no other; Pre may fail although the bases are small.
func TestBackwardLimits(t *testing.T) {
	const grows = "rule r pair b d a b\n" // 65, 91 and then 101 elements
	const hundred = "rule r local f a\n"  // 40, 70, 90 and 100 elements
	const full = "rule r local a b\n"     // 100 elements from the beginning
	const more = "rule r local a d\n"     // 100 elements, then more
	const casts = "rule r broadcast a b all a a a a a a\nrule s broadcast b b all a a a a a a\n"
	const cast = "rule t broadcast c b all a a a a a a\n" // with it 111 elements before that with three processes in a
	for i, x := range []struct {
		rules, property string
		rounds, count   int
		done            bool
		err             api.Errno
	}{
		{grows, "property q never count 3 a c e f count 3 b c d", 0, 65, false, api.OK},
		{grows, "property q never count 3 a c e f count 3 b c d", 1, 0, false, api.ErrLarge},
		{grows, "property q never count 3 a c e f count 3 b c d", 9, 0, false, api.ErrLarge},
		{hundred, "property q never count 3 a b count 3 c d e", 0, 40, false, api.OK},
		{hundred, "property q never count 3 a b count 3 c d e", 1, 70, false, api.OK},
		{hundred, "property q never count 3 a b count 3 c d e", 2, 90, false, api.OK},
		{hundred, "property q never count 3 a b count 3 c d e", 3, 100, true, api.OK},
		{hundred, "property q never count 3 a b count 3 c d e", 100, 100, true, api.OK},
		{full, "property q never count 3 a b c count 3 d e f", 0, 100, true, api.OK},
		{more, "property q never count 3 a b c count 3 d e f", 0, 0, false, api.ErrLarge},
		{casts, "property q never count 3 a b c d e f", 0, 56, true, api.OK},
		{casts + cast, "property q never count 3 a b c d e f", 0, 0, false, api.ErrLarge},
		{casts + cast, "property q never count 3 a b c d e f", 5, 0, false, api.ErrLarge},
	} {
		p := family(t, sixText+x.rules)
		q := property(t, p, x.property)
		l, done, e := Backward(p, q, x.rounds)
		if len(l) != x.count || done != x.done || e != x.err {
			t.Errorf("%d: %d elements, %v, error %d", i, len(l), done, e)
		}
		want, k, wantDone, wantErr := plainBackward(t, p, q, x.rounds)
		if !same(l, want) || done != wantDone || e != wantErr {
			t.Errorf("%d: not %d elements, %v, error %d", i, len(want), wantDone, wantErr)
		}
		if r, e := Solve(p, q, x.rounds); r.Rounds != k || e != x.err {
			t.Errorf("%d: %d rounds, error %d", i, r.Rounds, e)
		}
		if _, _, e := Cutoff(p, q, x.rounds); e != x.err {
			t.Errorf("%d: error %d", i, e)
		}
	}
}

// plainBackward asks for what leads to each element of each basis.
func plainBackward(t testing.TB, p api.Protocol, q api.Property, rounds int) ([]api.Element, int, bool, api.Errno) {
	t.Helper()
	basis, e := BadElements(p, q)
	if e != api.OK {
		t.Fatal(e)
	}
	for k := 0; ; k++ {
		next := append([]api.Element(nil), basis...)
		for _, x := range basis {
			list, e := Pre(p, x)
			if e != api.OK {
				return nil, 0, false, api.ErrLarge
			}
			next = append(next, list...)
		}
		next = plainMinimal(next)
		switch {
		case len(basis) > 100 || len(next) > 100:
			return nil, 0, false, api.ErrLarge
		case same(next, basis):
			return basis, k, true, api.OK
		case k >= rounds:
			return basis, k, false, api.OK
		}
		basis = next
	}
}

// P5.9: the bases of many families, with their errors.
func TestBackwardPlain(t *testing.T) {
	x := newSource(11)
	open, large, longest := 0, 0, 0
	for range 3000 {
		p := x.family(t, 6, false)
		q := x.property(t, p, 3)
		rounds := x.between(-1, 8)
		want, k, wantDone, wantErr := plainBackward(t, p, q, rounds)
		l, done, e := Backward(p, q, rounds)
		if !same(l, want) || done != wantDone || e != wantErr {
			t.Fatalf("%v, %v, error %d, not %v, %v, error %d: %+v %+v", l, done, e, want, wantDone, wantErr, p, q)
		}
		r, e := Solve(p, q, rounds)
		if r.Rounds != k || e != wantErr || (r.Verdict == api.Open) != !done || done && !same(r.Basis, want) || !done && len(r.Basis) > 0 {
			t.Fatalf("%v, error %d: %+v %+v", r, e, p, q)
		}
		longest = max(longest, k)
		if e != api.OK {
			large++
		} else if !done {
			open++
		}
	}
	if open < 50 || large < 20 || longest < 5 {
		t.Error(open, large, longest)
	}
}

// P5.6, P5.9: the upward closure of B(k) has the configurations from which a bad one is reached in at most k steps.
func TestBackwardDistances(t *testing.T) {
	x := newSource(12)
	for range 250 {
		p := x.family(t, 3, false)
		q := x.property(t, p, 2)
		list, distances := plainDistances(p, q, 6)
		for rounds := range 5 {
			basis, done, e := Backward(p, q, rounds)
			if e != api.OK {
				break
			}
			if !same(basis, plainMinimal(basis)) {
				t.Fatalf("not minimal: %v", basis)
			}
			for i, y := range list {
				want := distances[i] >= 0 && distances[i] <= rounds
				if !done && plainContains(basis, y) != want || done && plainContains(basis, y) != (distances[i] >= 0) {
					t.Fatalf("%d rounds, %v: distance %d: %v, %+v %+v", rounds, y, distances[i], basis, p, q)
				}
			}
			if done {
				break
			}
		}
	}
}

// P5.10, P5.14, P5.15: the document's examples, and a property for each verdict.
func TestVerdicts(t *testing.T) {
	careless := replaced(t, mxText, "read free ", "")
	const gather = "protocol p\ntopology clique\nstates a b c\ninitial a b c\nrule l local a b\nrule m local b c\n"
	const meet = "protocol p\ntopology clique\nstates a b c\ninitial a\nrule p pair a b a b\nrule q pair b c b c\n"
	for i, x := range []struct {
		family, property string
		rounds           int
		verdict, least   int
	}{
		{mxText, "property q never count 2 c", 2, api.Holds, 0},
		{mxText, "property q never count 2 c", 1, api.Open, 0},
		{mxText, "property q never count 1 c", 9, api.Violated, 1},
		{careless, "property q never count 2 c", 9, api.Violated, 2},
		{careless, "property q never count 3 c", 9, api.Violated, 3},
		{careless, "property q never count 3 c count 3 w count 3 i", 30, api.Violated, 9},
		{infectText, "property q never count 1 i count 1 s", 9, api.Holds, 0},
		{infectText, "property q never count 3 i", 9, api.Violated, 3},
		{infectText, "property q never count 3 s", 0, api.Violated, 3},
		{gather, "property q never count 3 c count 3 b", 9, api.Violated, 6},
		{gather, "property q never start b c count 1 a", 9, api.Holds, 0},
		{gather, "property q never start c count 1 a b", 9, api.Holds, 0},
		{gather, "property q never start a b c count 1 a b", 9, api.Violated, 1},
		{gather, "property q never start a count 2 c count 3 b", 9, api.Violated, 5},
		{meet, "property q never count 1 b", 9, api.Violated, 2},
		{meet, "property q never count 1 c", 9, api.Violated, 2},
		{meet, "property q never count 3 c", 9, api.Violated, 4},
		{meet, "property q never count 1 a count 1 c", 9, api.Violated, 3},
	} {
		p := family(t, x.family)
		q := property(t, p, x.property)
		r, e := Solve(p, q, x.rounds)
		if r.Verdict != x.verdict || r.Least != x.least || (len(r.Basis) > 0) != (x.verdict != api.Open) || e != api.OK {
			t.Errorf("%d: %v, error %d", i, r, e)
		}
		cutoff := map[int]int{api.Open: 0, api.Holds: 1, api.Violated: x.least}[x.verdict]
		if c, v, e := Cutoff(p, q, x.rounds); c != cutoff || v != x.verdict || e != api.OK {
			t.Errorf("%d: cutoff %d, %d, error %d", i, c, v, e)
		}
		s, run, ok, e := Trace(p, q, x.rounds)
		switch {
		case x.least > api.MaxProcesses:
			if !isZero(s) || !isZero(run) || ok || e != api.ErrLarge {
				t.Errorf("%d: %v %v %v, error %d", i, s, run, ok, e)
			}
		case x.verdict == api.Violated:
			if s != (api.Size{N: x.least}) || !ok || e != api.OK || !unfold.IsViolation(p, q, s, run) {
				t.Errorf("%d: %v %v %v, error %d", i, s, run, ok, e)
			}
		case !isZero(s) || !isZero(run) || ok || e != api.OK:
			t.Errorf("%d: %v %v %v, error %d", i, s, run, ok, e)
		}
	}
}

// P5.15: the largest size, one above it, and one at which unfold holds too many configurations.
func TestTraceLimits(t *testing.T) {
	const text = "protocol p\ntopology clique\nstates a b c\ninitial a b c\nrule l local a b\nrule m local a c\n"
	p := family(t, text)
	for i, x := range []struct {
		property string
		least    int
		err      api.Errno
	}{
		{"property q never start a count 3 a count 3 b count 2 c", 8, api.OK},
		{"property q never start a count 3 a count 3 b count 3 c", 9, api.ErrLarge},
		{"property q never start a b count 3 a count 3 b count 2 c", 8, api.OK},
		{"property q never count 3 a count 3 b count 2 c", 8, api.ErrLarge},
		{"property q never count 3 a count 2 b count 2 c", 7, api.OK},
	} {
		q := property(t, p, x.property)
		if r, e := Solve(p, q, 20); r.Verdict != api.Violated || r.Least != x.least || e != api.OK {
			t.Errorf("%d: %v, error %d", i, r, e)
		}
		s, run, ok, e := Trace(p, q, 20)
		if ok != (x.err == api.OK) || e != x.err {
			t.Errorf("%d: %v, error %d", i, ok, e)
		}
		if ok && (s != api.Size{N: x.least} || !unfold.IsViolation(p, q, s, run)) || !ok && (!isZero(s) || !isZero(run)) {
			t.Errorf("%d: %v %v", i, s, run)
		}
	}
}

// P5.11, P5.14, P5.15: the verdict is that of the unfolded systems.
func TestVerdictsUnfolded(t *testing.T) {
	x := newSource(13)
	verdicts := map[int]int{}
	for range 1500 {
		p := x.family(t, 4, false)
		q := x.property(t, p, 2)
		r, e := Solve(p, q, 30)
		if e != api.OK {
			continue
		}
		verdicts[r.Verdict]++
		if r.Verdict == api.Open {
			continue
		}
		for n := 1; n <= 5; n++ {
			_, found, e := unfold.Shortest(p, q, api.Size{N: n})
			if want := r.Verdict == api.Violated && n >= r.Least; found != want || e != api.OK {
				t.Fatalf("%d processes: %v, error %d: %v, %+v %+v", n, found, e, r, p, q)
			}
		}
		checkTrace(t, p, q, r)
		c, v, e := Cutoff(p, q, 30)
		if v != r.Verdict || c != max(r.Least, 1) || e != api.OK {
			t.Fatalf("cutoff %d, %d, error %d: %v", c, v, e, r)
		}
	}
	if verdicts[api.Holds] < 200 || verdicts[api.Violated] < 200 {
		t.Error(verdicts)
	}
}

func checkTrace(t *testing.T, p api.Protocol, q api.Property, r Result) {
	t.Helper()
	s, run, found, e := Trace(p, q, 30)
	if found != (r.Verdict == api.Violated && e == api.OK) || e != api.OK && r.Least <= 6 {
		t.Fatalf("%v, error %d: %v, %+v %+v", found, e, r, p, q)
	}
	if found && (s != api.Size{N: r.Least} || !unfold.IsViolation(p, q, s, run)) {
		t.Fatalf("%v %v: %v, %+v %+v", s, run, r, p, q)
	}
}
