package threshold_test

import (
	"fmt"

	"familycheck/api"
	"familycheck/linear"
	"familycheck/protocol"
	"familycheck/threshold"
	"familycheck/unfold"
)

// The example of README.md.
func Example() {
	p, _ := protocol.Parse("protocol st\ntopology clique\nstates v0 v1 se ac\nmessages echo\nfaults arbitrary\n" +
		"resilience n-3*t-1\nresilience t-f\ninitial v0 v1\nrule r1 local v1 se send echo\n" +
		"rule r2 local v0 se when 1*echo >= t+1 send echo\nrule r3 local se ac when 1*echo >= n-t\n")
	q, _ := protocol.ParseProperty(p, "property unf never start v0 count 1 ac")
	kind, proofs, _ := threshold.Prove(p, q, 200)
	fmt.Println(kind == api.Infeasible, len(proofs), threshold.Accept(p, q, proofs))

	q, _ = protocol.ParseProperty(p, "property acc never count 1 ac")
	system, _ := threshold.Build(p, q, []int{1}, 0)
	o, _ := linear.Solve(system, 200)
	s, r, _ := threshold.Concretize(p, q, []int{1}, 0, o.Point)
	fmt.Println(s.N, len(r.Steps), unfold.IsViolation(p, q, s, r))
	// Output:
	// true 5 true
	// 1 2 true
}
