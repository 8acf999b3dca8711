package cover

import (
	"slices"
	"testing"

	"familycheck/api"
	"familycheck/unfold"
)

// P5.12: bases that one rule keeps, and others.
func TestCheckRule(t *testing.T) {
	p := family(t, mxText)
	q := property(t, p, "property q never count 2 c")
	basis := right(t).L
	many := slices.Repeat(basis, 30)
	const most = api.MaxParameter
	for i, x := range []struct {
		basis []api.Element
		want  [3]bool
	}{
		{basis, [3]bool{true, true, true}},
		{nil, [3]bool{true, true, true}},
		{basis[:1], [3]bool{true, true, false}},
		{basis[1:2], [3]bool{false, true, false}},
		{basis[3:], [3]bool{true, false, true}},
		{elements(basis[0], basis[3]), [3]bool{true, false, true}},
		{elements(basis[3], basis[2], basis[1], basis[0], basis[2]), [3]bool{true, true, true}},
		{append(many, element(0, 5, 5, 5)), [3]bool{true, true, true}},
		{elements(element(0, 0, 0, 0)), [3]bool{true, true, false}},
		{elements(element(0, 0, 0, 0), element(1, 0, 0, 0)), [3]bool{true, true, true}},
		{append(elements(element(2, 0, 0, 0)), basis...), [3]bool{}},
		{append(elements(element(0, 0, 0)), basis...), [3]bool{}},
		{append(elements(element(0, -1, 0, 0)), basis...), [3]bool{}},
		{append(elements(element(0, most+1, 0, 0)), basis...), [3]bool{}},
		{append(elements(element(1, most, 0, 2)), basis...), [3]bool{false, true, true}},
		{append(elements(element(0, most, 0, 2)), basis...), [3]bool{false, true, true}},
	} {
		for rule, want := range x.want {
			if ok := CheckRule(p, q, x.basis, rule); ok != want {
				t.Errorf("%d: rule %d: %v", i, rule, ok)
			}
		}
	}
	for _, rule := range []int{minInt, -1, 3, maxInt} {
		if CheckRule(p, q, nil, rule) || CheckRule(p, q, basis, rule) {
			t.Errorf("rule %d", rule)
		}
	}
}

// P5.12: a rule with too much before an element is refused, also where all of that is in the upward closure.
func TestCheckRuleLarge(t *testing.T) {
	p := family(t, replaced(t, spreadText, " write lo", ""))
	q := property(t, p, "property q never count 1 b")
	for count, want := range map[int]bool{99: true, 100: false, api.MaxParameter: false} {
		basis := elements(element(0, count, 0, 0, 0, 0), element(0, 0, 0, 0, 0, 1))
		if CheckRule(p, q, basis, 0) != want {
			t.Error(count)
		}
	}
}

// P5.12: each demand of CheckBasis.
func TestCheckBasis(t *testing.T) {
	p := family(t, mxText)
	q := property(t, p, "property q never count 2 c")
	basis := right(t).L
	more := slices.Repeat(basis, 25)
	for i, x := range []struct {
		basis []api.Element
		want  bool
	}{
		{basis, true},
		{nil, false},
		{basis[1:], false},
		{basis[:3], false},
		{elements(basis[0], basis[1], basis[3]), false},
		{elements(basis[0], basis[3]), false},
		{elements(basis[3], basis[1], basis[2], basis[0]), true},
		{elements(element(0, 0, 0, 1), element(1, 0, 0, 2)), true},                   // another proof: nobody is in c while the value is free
		{append(elements(element(0, 3, 4, 2), element(0, 1, 0, 1)), basis...), true}, // above others
		{append(elements(element(0, 0, 0, 0)), basis...), false},                     // initial
		{append(elements(element(0, 5, 0, 0)), basis...), false},                     // initial
		{append(elements(element(0, 0, 0)), basis...), false},                        // no element
		{append(elements(element(-1, 0, 0, 2)), basis...), false},                    // no element
		{append(elements(element(0, 0, -1, 2)), basis...), false},                    // no element
		{append(slices.Clone(basis), element(0, 0, api.MaxParameter, api.MaxParameter+1)), false},
		{append(slices.Clone(basis), element(0, 0, 0, api.MaxParameter)), false}, // too much before it
		{more, true},
		{append(more, basis[0]), false},
	} {
		if ok := CheckBasis(p, q, x.basis); ok != x.want {
			t.Errorf("%d: %v", i, ok)
		}
	}
	if CheckBasis(p, property(t, p, "property q never count 1 c"), basis) {
		t.Error("another property")
	}
	p.Rules[1].Read = -1
	if CheckBasis(p, q, basis) {
		t.Error("another family")
	}
	p.Rules, p.Initial = nil, []int{0, 2}
	if CheckBasis(p, q, elements(element(0, 0, 0, 2), element(1, 0, 0, 2))) || !CheckBasis(p, property(t, p, "property q never start i count 2 c"), elements(element(0, 0, 0, 2), element(1, 0, 0, 2))) {
		t.Error("other initial states")
	}
}

// plainCheckRule and plainCheckBasis follow the sentences of P5.12, for valid arguments.
func plainCheckRule(p api.Protocol, basis []api.Element, rule int) bool {
	for _, e := range basis {
		list, err := PreRule(p, rule, e)
		if err != api.OK {
			return false
		}
		for _, x := range list {
			if !plainContains(basis, x) {
				return false
			}
		}
	}
	return true
}

func plainCheckBasis(p api.Protocol, q api.Property, basis []api.Element) bool {
	ok := len(basis) <= 100
	for _, e := range plainBad(p, q) {
		ok = ok && plainContains(basis, e)
	}
	for rule := range p.Rules {
		ok = ok && plainCheckRule(p, basis, rule)
	}
	for _, e := range basis {
		ok = ok && ValidElement(p, e) == api.OK && !plainIsInitial(p, q, e)
	}
	return ok
}

// altered returns a basis that may have lost its meaning.
func (x source) altered(p api.Protocol, basis []api.Element) []api.Element {
	basis = cloned(basis)
	for range x.IntN(3) {
		switch i := x.IntN(len(basis) + 1); {
		case i == len(basis) || x.IntN(3) == 0:
			basis = append(basis, x.element(p, 4))
		case x.IntN(3) == 0:
			basis = slices.Delete(basis, i, i+1)
		default:
			state := x.IntN(len(p.States))
			basis[i].Counts[state] = max(basis[i].Counts[state]+x.between(-1, 1), 0)
		}
	}
	return basis
}

// P5.12, P5.13, S1: what is accepted, and that it shows what it must; the basis of Solve is accepted.
func TestCheckBasisPlain(t *testing.T) {
	x := newSource(14)
	accepted, refused := 0, 0
	for range 2500 {
		p := x.family(t, 4, false)
		q := x.property(t, p, 2)
		r, e := Solve(p, q, 20)
		if e != api.OK || r.Verdict == api.Open {
			continue
		}
		if CheckBasis(p, q, r.Basis) != (r.Verdict == api.Holds) {
			t.Fatalf("%v: %+v %+v", r, p, q)
		}
		basis := x.altered(p, r.Basis)
		for rule := range p.Rules {
			if CheckRule(p, q, basis, rule) != plainCheckRule(p, basis, rule) {
				t.Fatalf("rule %d: %v, %+v", rule, basis, p)
			}
		}
		ok := CheckBasis(p, q, basis)
		if ok != plainCheckBasis(p, q, basis) || ok && r.Verdict != api.Holds {
			t.Fatalf("%v: %v, %+v %+v", ok, basis, p, q)
		}
		if !ok {
			refused++
			continue
		}
		accepted++
		for n := 1; n <= 4; n++ {
			if _, found, e := unfold.Shortest(p, q, api.Size{N: n}); found || e != api.OK {
				t.Fatalf("%d processes, error %d: %v, %+v %+v", n, e, basis, p, q)
			}
		}
	}
	if accepted < 150 || refused < 200 {
		t.Error(accepted, refused)
	}
}
