package protocol_test

import (
	"fmt"

	"familycheck/api"
	"familycheck/protocol"
)

// The example of README.md.
func Example() {
	p, _ := protocol.Parse("protocol mx\ntopology clique\nstates i w c\nvalues free held\ninitial i\n" +
		"rule r1 local i w\nrule r2 local w c read free write held\nrule r3 local c i read held write free\n")
	q, _ := protocol.ParseProperty(p, "property ex never count 2 c")
	classes, _ := protocol.Classify(p)
	p, _ = protocol.Apply(p, api.Edit{Kind: api.RenameState, State: 2, Name: "crit"})
	text, _ := protocol.FormatProperty(p, q)
	fmt.Println(classes.Cover, text)
	// Output: true property ex never count 2 crit
}
