package fair_test

import (
	"fmt"

	"familycheck/api"
	"familycheck/fair"
	"familycheck/protocol"
)

// The example of README.md.
func Example() {
	p, _ := protocol.Parse("protocol wake\ntopology clique\nstates s r d\ninitial s\n" +
		"rule up local s r\nrule call broadcast r d all r r d\nrule nap pair d d d d\n")
	q, _ := protocol.ParseProperty(p, "property done eventually goal d")
	weights, found, _ := fair.FindWeights(p, q, 3)
	fmt.Println(weights, found, fair.CheckWeights(p, q, weights))

	states, _ := fair.Reach(p, q)
	rules, _ := fair.Helpful(p, q, weights)
	fmt.Println(len(states), states[4], rules[4])
	next, _ := fair.Post(p, 0, api.Element{Counts: []int{2, 1, 0}})
	fmt.Println(next)

	v, _ := protocol.ParseProperty(p, "property v never count 1 s count 1 d")
	safe, _ := fair.Safe(p, v)
	fmt.Println(safe)
	// Output:
	// [2 1 0] true true
	// 12 {0 [0 2 1]} [1]
	// [{0 [1 2 0]} {0 [2 2 0]}]
	// true
}
