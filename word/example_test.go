package word_test

import (
	"fmt"

	"familycheck/api"
	"familycheck/protocol"
	"familycheck/word"
)

// The example of README.md.
func Example() {
	p, _ := protocol.Parse("protocol tok\ntopology ring\nstates tk no\ninitial no\nleader tk\nrule go pass tk no no tk right\n")
	q, _ := protocol.ParseProperty(p, "property one never count 2 tk")
	kind, proof, _ := word.Prove(p, q, 2, 10)
	ok, _ := word.Accepts(proof, []int{1, 0, 1})
	fmt.Println(kind == api.Holds, proof.States, ok, word.CheckAutomaton(p, q, proof))

	r, _ := word.RuleRelation(p, 0)
	start, _ := word.InitialWords(p, q)
	next, _ := word.Image(r, start)
	words, _ := word.Words(next, 3)
	fmt.Println(words)
	// Output:
	// true 3 true true
	// [[1 0 1]]
}
