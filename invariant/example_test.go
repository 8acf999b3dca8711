package invariant_test

import (
	"fmt"

	"familycheck/api"
	"familycheck/invariant"
	"familycheck/protocol"
)

// The example of README.md.
func Example() {
	p, _ := protocol.Parse("protocol mx\ntopology clique\nstates i w c\nvalues free held\ninitial i\n" +
		"rule r1 local i w\nrule r2 local w c read free write held\nrule r3 local c i read held write free\n")
	q, _ := protocol.ParseProperty(p, "property ex never count 2 c")
	two, _ := invariant.ParseClause(p, "all c c")
	taken, _ := invariant.ParseClause(p, "all c value=free")
	index, failure, _ := invariant.StepFailure(p, 1, []api.Clause{two}, nil)
	fmt.Println(index, failure, invariant.CheckClauses(p, q, []api.Clause{two, taken}, nil))

	kind, proof, _ := invariant.Prove(p, q, 3)
	text, _ := invariant.FormatClause(p, proof[0])
	fmt.Println(kind == api.Holds, len(proof), text, invariant.CheckClauses(p, q, proof, nil))
	// Output:
	// 0 {0 [0 1 1]} true
	// true 3 all value=held some=c true
}
