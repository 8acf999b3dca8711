package tree_test

import (
	"fmt"

	"familycheck/api"
	"familycheck/protocol"
	"familycheck/tree"
)

// The example of README.md.
func Example() {
	p, _ := protocol.Parse("protocol token\ntopology tree\nstates tk no\ninitial no\nleader tk\n" +
		"rule down pass tk no no tk child\nrule back pass tk no no tk parent\n")
	q, _ := protocol.ParseProperty(p, "property one never count 2 tk")
	kind, proof, _ := tree.Prove(p, q, 2, 10)
	ok, _ := tree.Accepts(proof, []int{2, 0, 2, 0, 0}, []int{1, 1, 0, 1, 1})
	fmt.Println(kind == api.Holds, proof.States, ok, tree.CheckAutomaton(p, q, proof))

	start, _ := tree.InitialTrees(p, q)
	next, _ := tree.Post(p, 0, start)
	shape, labels, _, _ := tree.Witness(next)
	fmt.Println(shape, labels)
	// Output:
	// true 3 true true
	// [2 0 0] [1 0 1]
}
