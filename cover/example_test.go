package cover_test

import (
	"fmt"

	"familycheck/api"
	"familycheck/cover"
	"familycheck/protocol"
	"familycheck/unfold"
)

// The example of README.md.
func Example() {
	p, _ := protocol.Parse("protocol mx\ntopology clique\nstates i w c\nvalues free held\ninitial i\n" +
		"rule r1 local i w\nrule r2 local w c read free write held\nrule r3 local c i read held write free\n")
	q, _ := protocol.ParseProperty(p, "property ex never count 2 c")
	r, _ := cover.Solve(p, q, 10)
	fmt.Println(r.Verdict == api.Holds, len(r.Basis), cover.CheckBasis(p, q, r.Basis))

	p.Rules[1].Read = -1
	n, verdict, _ := cover.Cutoff(p, q, 10)
	s, run, _, _ := cover.Trace(p, q, 10)
	fmt.Println(n, verdict == api.Violated, s.N, len(run.Steps), unfold.IsViolation(p, q, s, run))
	// Output:
	// true 4 true
	// 2 true 2 4 true
}
