package linear_test

import (
	"fmt"

	"familycheck/api"
	"familycheck/linear"
)

// The example of README.md.
func Example() {
	a, _ := linear.ParseRow(2, "2*x0 - 2*x1 - 1 >= 0")
	b, _ := linear.ParseRow(2, "-2*x0 + 2*x1 + 1 >= 0")
	s := api.System{Vars: 2, Rows: []api.Row{a, b}}
	o, _ := linear.Solve(s, 300)
	fmt.Println(o.Kind == api.Infeasible, linear.CheckRefutation(s, o.Refutation))
	// Output: true true
}
