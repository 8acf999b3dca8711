package unfold_test

import (
	"fmt"

	"familycheck/protocol"
	"familycheck/unfold"
)

// The example of README.md.
func Example() {
	p, _ := protocol.Parse("protocol mx\ntopology clique\nstates i w c\nvalues free held\ninitial i\n" +
		"rule r1 local i w\nrule r2 local w c write held\nrule r3 local c i read held write free\n")
	q, _ := protocol.ParseProperty(p, "property ex never count 2 c")
	s, r, found, _ := unfold.Smallest(p, q, 4)
	configs, _ := unfold.Replay(p, s, r)
	fmt.Println(found, s.N, len(r.Steps), configs[4].States, unfold.IsViolation(p, q, s, r))
	// Output: true 2 4 [2 2] true
}
