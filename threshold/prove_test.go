package threshold

import (
	"slices"
	"testing"

	"familycheck/api"
	"familycheck/linear"
	"familycheck/unfold"
)

// P4.13: the document's examples 1 to 3, and others of each kind.
func TestProveExamples(t *testing.T) {
	weak := replaced(t, stText, "resilience n-3*t-1", "resilience n-3*t")
	const unforgeable, correct = "property q never start v0 count 1 ac", "property q eventually start v1 goal ac"
	for i, x := range []struct {
		family, property string
		want             int
	}{
		{stText, unforgeable, api.Infeasible},
		{stText, correct, api.Infeasible},
		{weak, unforgeable, api.Infeasible},
		{replaced(t, stText, "resilience t-f\n", "resilience t-f+1\n"), unforgeable, api.Feasible},
		{replaced(t, stText, "resilience n-3*t-1\n", ""), unforgeable, api.Infeasible},
		{replaced(t, stText, "resilience n-3*t-1\n", ""), correct, api.Infeasible},
		{replaced(t, stText, "resilience t-f\n", ""), correct, api.Feasible},
		{stText, "property q eventually goal ac", api.Feasible},
		{stText, "property q eventually goal se ac", api.Feasible},
		{stText, "property q never count 1 ac", api.Feasible},
		{crText, "property q never count 1 c", api.Feasible},
		{crText, "property q eventually goal b c", api.Infeasible},
		{crText, "property q eventually goal c", api.Feasible},
		{replaced(t, crText, "n-f-1", "n-2*f"), "property q eventually goal c", api.Infeasible},
		{replaced(t, crText, "n-f-1", "n-2*f+1"), "property q eventually goal c", api.Feasible},
		{replaced(t, crText, "crash", "omission"), "property q eventually goal b c", api.Infeasible},
		{replaced(t, crText, "faults crash\n", ""), "property q eventually goal c", api.Infeasible},
		{crText, "property q eventually goal a b c", api.Infeasible},
		{crText, "property q never count 1 a count 3 c", api.Feasible},
	} {
		p := family(t, x.family)
		q := property(t, p, x.property)
		kind, proofs, e := Prove(p, q, 200)
		if kind != x.want || e != api.OK {
			t.Errorf("%d: %d, error %d", i, kind, e)
		}
		if want := kind == api.Infeasible; Accept(p, q, proofs) != want || len(proofs) > 0 != want {
			t.Errorf("%d: %d elements", i, len(proofs))
		}
	}
}

// P4.5, P4.13: a process that has gone to d because of a message of a faulty process has to leave it only if that message is certain.
func TestProveFaults(t *testing.T) {
	const text = `protocol p
topology clique
states s a d b
messages m
resilience n-f-1
initial s a
rule r1 local s b send m
rule r2 local a b
rule r3 local a d when 1*m >= 1
rule r4 local d b when 1*m >= 1
`
	for fault, want := range []int{api.Infeasible, api.Infeasible, api.Feasible, api.Feasible} {
		p := family(t, replaced(t, text, "resilience", faultLines[fault]+"resilience"))
		q := property(t, p, "property q eventually start a goal b")
		if kind, _, e := Prove(p, q, 100); kind != want || e != api.OK {
			t.Errorf("fault %d: %d, error %d", fault, kind, e)
		}
		if isViolated(t, p, q, 3) != (want == api.Feasible) {
			t.Errorf("fault %d", fault)
		}
	}
}

// P4.11, P4.13: a proof has the refutations of linear.Solve for each schema and case in order.
func TestProofParts(t *testing.T) {
	p := family(t, stText)
	for _, text := range []string{"property q never start v0 count 1 ac", "property q eventually start v1 goal ac"} {
		q := property(t, p, text)
		_, proofs, e := Prove(p, q, 100)
		if e != api.OK {
			t.Fatal(e)
		}
		var want []api.SchemaProof
		for _, schema := range plainSchemas(p) {
			for number := range plainChoices(p, q) {
				system, _ := Build(p, q, schema, number)
				o, _ := linear.Solve(system, 100)
				want = append(want, api.SchemaProof{Schema: schema, Case: number, Refutation: o.Refutation})
			}
		}
		if !same(proofs, want) {
			t.Errorf("%v, not %v", proofs, want)
		}
	}
}

// P4.11: everything that is no proof.
func TestAcceptRefuses(t *testing.T) {
	p := family(t, stText)
	q := property(t, p, "property q eventually start v1 goal ac")
	_, right, _ := Prove(p, q, 100)
	if len(right) != 20 || !Accept(p, q, right) {
		t.Fatal(len(right))
	}
	for i, change := range []func(l *[]api.SchemaProof){
		func(l *[]api.SchemaProof) { *l = nil },
		func(l *[]api.SchemaProof) { *l = (*l)[1:] },
		func(l *[]api.SchemaProof) { *l = (*l)[:19] },
		func(l *[]api.SchemaProof) { *l = append(*l, (*l)[19]) },
		func(l *[]api.SchemaProof) { *l = append(*l, api.SchemaProof{}) },
		func(l *[]api.SchemaProof) { *l = slices.Insert(*l, 7, (*l)[7]) },
		func(l *[]api.SchemaProof) { *l = slices.Delete(*l, 7, 8) },
		func(l *[]api.SchemaProof) { (*l)[4], (*l)[5] = (*l)[5], (*l)[4] },
		func(l *[]api.SchemaProof) { (*l)[4], (*l)[8] = (*l)[8], (*l)[4] },
		func(l *[]api.SchemaProof) { slices.Reverse(*l) },
		func(l *[]api.SchemaProof) { (*l)[0].Case = -1 },
		func(l *[]api.SchemaProof) { (*l)[0].Case = 1 },
		func(l *[]api.SchemaProof) { (*l)[19].Case = 4 },
		func(l *[]api.SchemaProof) { (*l)[0].Schema = []int{0} },
		func(l *[]api.SchemaProof) { (*l)[19].Schema = []int{1} },
		func(l *[]api.SchemaProof) { (*l)[19].Schema = []int{1, 0, 0} },
		func(l *[]api.SchemaProof) { (*l)[0].Refutation.Nodes = nil },
		func(l *[]api.SchemaProof) { (*l)[19].Refutation.Nodes = nil },
		func(l *[]api.SchemaProof) {
			(*l)[12].Refutation.Nodes = []api.Node{{Var: -1}}
		},
	} {
		if Accept(p, q, changed(right, change)) {
			t.Errorf("%d: accepted", i)
		}
	}
	empty := changed(right, func(l *[]api.SchemaProof) {
		for i := range 4 {
			(*l)[i].Schema = []int{} // as good as nil
		}
	})
	if !Accept(p, q, empty) {
		t.Error("not accepted with empty slices")
	}
}

// P4.11: a proof for one family or property is examined for the other.
func TestAcceptForOthers(t *testing.T) {
	p := family(t, stText)
	q := property(t, p, "property q never start v0 count 1 ac")
	_, proofs, _ := Prove(p, q, 100)
	loose := family(t, replaced(t, stText, "resilience t-f\n", "resilience t-f+1\n"))
	spoiled := changed(p, func(p *api.Protocol) { p.Name = "" })
	looped := changed(p, func(p *api.Protocol) { p.Rules[0].To = 1 })
	for i, x := range []struct {
		p    api.Protocol
		q    api.Property
		want bool
	}{
		{p, q, true},
		{p, changed(q, func(q *api.Property) { q.Bad[0].Least = 2; q.Name = "other" }), true},
		{p, changed(q, func(q *api.Property) { q.Start = nil }), false},
		{p, changed(q, func(q *api.Property) { q.Name = "" }), false},
		{loose, q, false},
		{spoiled, q, false},
		{looped, q, false},
		{p, property(t, p, "property q eventually start v1 goal ac"), false},
		{p, property(t, p, "property q eventually start v1 goal v0 ac"), false},
	} {
		if Accept(x.p, x.q, proofs) != x.want {
			t.Errorf("%d: not %v", i, x.want)
		}
	}
}

// P4.11: a family without guards and rules.
func TestProveWithoutRules(t *testing.T) {
	p := guarded()
	for i, x := range []struct {
		text string
		want int
	}{
		{"never count 1 a", api.Feasible}, {"never count 1 b", api.Infeasible}, {"never count 3 a b", api.Feasible}, {"never count 1 a count 1 b", api.Infeasible},
		{"eventually goal a", api.Infeasible}, {"eventually goal b", api.Feasible}, {"eventually goal a b", api.Infeasible},
	} {
		q := property(t, p, "property q "+x.text)
		kind, proofs, e := Prove(p, q, 10)
		if kind != x.want || e != api.OK || Accept(p, q, proofs) != (kind == api.Infeasible) {
			t.Errorf("%d: %d, %v, error %d", i, kind, proofs, e)
		}
		if kind == api.Infeasible && (len(proofs) != 1 || len(proofs[0].Schema) > 0 || proofs[0].Case != 0) {
			t.Errorf("%d: %v", i, proofs)
		}
	}
}

// P4.13, R6: without nodes nothing is known.
func TestProveWithoutNodes(t *testing.T) {
	p := family(t, stText)
	for _, text := range []string{"property q never start v0 count 1 ac", "property q never count 1 ac", "property q eventually start v1 goal ac"} {
		for _, nodes := range []int{0, -1, minInt} {
			if kind, proofs, e := Prove(p, property(t, p, text), nodes); kind != api.Unknown || len(proofs) > 0 || e != api.OK {
				t.Errorf("%d nodes: %d, %v, error %d", nodes, kind, proofs, e)
			}
		}
		kind, _, _ := Prove(p, property(t, p, text), 200)
		if most, _, e := Prove(p, property(t, p, text), maxInt); most != kind || e != api.OK {
			t.Errorf("%d, not %d, error %d", most, kind, e)
		}
	}
}

// P4.13: Unknown comes before Infeasible, and Feasible before Unknown, wherever they are.
func TestProveKinds(t *testing.T) {
	x := newSource(9)
	var seen [3]int
	mixed := 0
	for range 3000 {
		p := x.family(t)
		q := x.property(t, p, x.between(api.Never, api.Eventually))
		if Check(p, q) != api.OK {
			continue
		}
		nodes := x.IntN(4)
		var outcomes [3]int
		first := -1
		for _, schema := range plainSchemas(p) {
			for number := range plainChoices(p, q) {
				o, e := linear.Solve(plainBuild(p, q, schema, number), nodes)
				if e != api.OK {
					t.Fatal(e)
				}
				outcomes[o.Kind]++
				if first < 0 {
					first = o.Kind
				}
			}
		}
		want := api.Infeasible
		if outcomes[api.Feasible] > 0 {
			want = api.Feasible
		} else if outcomes[api.Unknown] > 0 {
			want = api.Unknown
		}
		kind, proofs, e := Prove(p, q, nodes)
		if kind != want || e != api.OK || (kind == api.Infeasible) != Accept(p, q, proofs) || kind != api.Infeasible && len(proofs) > 0 {
			t.Fatalf("%d, not %d, error %d: %+v %+v", kind, want, e, p, q)
		}
		seen[kind]++
		if first != kind {
			mixed++
		}
	}
	if seen[api.Feasible] < 500 || seen[api.Infeasible] < 200 || seen[api.Unknown] < 200 || mixed < 20 {
		t.Error(seen, mixed)
	}
}

// P4.12, P4.13, S1, S4: proofs and solutions agree with the unfolded systems.
func TestProveAgrees(t *testing.T) {
	x := newSource(10)
	var seen [3]int
	violated := 0
	for range 700 {
		p := x.family(t)
		q := x.property(t, p, x.between(api.Never, api.Eventually))
		if Check(p, q) != api.OK {
			continue
		}
		kind, _, e := Prove(p, q, 100)
		if e != api.OK {
			t.Fatal(e)
		}
		seen[kind]++
		found := isViolated(t, p, q, 4)
		if found {
			violated++
		}
		if found && kind != api.Feasible {
			t.Fatalf("%d, but violated: %+v %+v", kind, p, q)
		}
	}
	if seen[api.Feasible] < 100 || seen[api.Infeasible] < 50 || seen[api.Unknown] > 5 || violated < seen[api.Feasible]/2 {
		t.Error(seen, violated)
	}
}

func isViolated(t *testing.T, p api.Protocol, q api.Property, most int) bool {
	t.Helper()
	var found bool
	var e api.Errno
	if q.Kind == api.Never {
		_, _, found, e = unfold.Smallest(p, q, most)
	} else {
		_, _, found, e = unfold.SmallestLasso(p, q, most)
	}
	if e != api.OK && e != api.ErrLarge {
		t.Fatalf("error %d: %+v %+v", e, p, q)
	}
	return found
}

// P4.10, P4.12: at one size a property is violated if and only if one of the fixed systems has a solution.
func TestFixAgrees(t *testing.T) {
	x := newSource(11)
	var seen [2]int
	for range 1500 {
		p := x.family(t)
		q := x.property(t, p, x.between(api.Never, api.Eventually))
		s, ok := x.size(p, 3)
		if !ok || Check(p, q) != api.OK {
			continue
		}
		solved := false
		for _, schema := range plainSchemas(p) {
			for number := range plainChoices(p, q) {
				system, e := Fix(p, q, schema, number, s)
				if e != api.OK {
					t.Fatal(e)
				}
				o, _ := linear.Solve(system, 300)
				if o.Kind == api.Unknown {
					t.Fatalf("unknown: %+v %+v", p, q)
				}
				solved = solved || o.Kind == api.Feasible
			}
		}
		var found bool
		var e api.Errno
		if q.Kind == api.Never {
			_, found, e = unfold.Shortest(p, q, s)
		} else {
			_, found, e = unfold.FairLasso(p, q, s)
		}
		if e != api.OK || found != solved {
			t.Fatalf("a solution: %v, a violation: %v, error %d: %+v %+v %v", solved, found, e, p, q, s)
		}
		if found {
			seen[1]++
		} else {
			seen[0]++
		}
	}
	if seen[0] < 200 || seen[1] < 200 {
		t.Error(seen)
	}
}

// P4.11, P4.13: sixteen schemas with sixty-four cases each.
func TestProveManyCases(t *testing.T) {
	p := family(t, `protocol p
topology clique
states a b c
messages m
faults omission
resilience n-2*f-1
initial a
rule r1 local a b send m
rule r2 local a c when 1*m >= 1
rule r3 local b c when 1*m >= n-f
rule r4 local b c when 1*m >= n
rule r5 local a b when 1*m >= n send m
rule r6 local b c when 1*m >= 1
rule r7 local a b when 1*m >= n-f
`)
	q := property(t, p, "property q eventually goal c")
	kind, proofs, e := Prove(p, q, 100)
	if kind != api.Infeasible || e != api.OK || len(proofs) != 1024 || !Accept(p, q, proofs) {
		t.Errorf("%d, %d elements, error %d", kind, len(proofs), e)
	}
	last := proofs[len(proofs)-1]
	if !slices.Equal(last.Schema, []int{2, 1, 0}) || last.Case != 63 {
		t.Error(last)
	}
}
