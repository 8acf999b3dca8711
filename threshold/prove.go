package threshold

import (
	"iter"
	"slices"

	"familycheck/api"
	"familycheck/linear"
)

// questions goes over the schemas and cases in the order of a proof, each with its system.
func (m *model) questions() iter.Seq2[api.SchemaProof, api.System] {
	return func(yield func(api.SchemaProof, api.System) bool) {
		for _, schema := range m.schemas() {
			l := m.layoutOf(schema)
			for number := range countCases(m.family, m.property) {
				if !yield(api.SchemaProof{Schema: slices.Clone(schema), Case: number}, l.system(number)) {
					return
				}
			}
		}
	}
}

// Accept reports whether proofs refutes every case of every schema.
func Accept(p api.Protocol, q api.Property, proofs []api.SchemaProof) bool {
	m, e := open(p, q)
	if e != api.OK {
		return false
	}
	next := 0
	for question, system := range m.questions() {
		if next == len(proofs) || !isProof(proofs[next], question, system) {
			return false
		}
		next++
	}
	return next == len(proofs)
}

func isProof(x, question api.SchemaProof, system api.System) bool {
	return slices.Equal(x.Schema, question.Schema) && x.Case == question.Case && linear.CheckRefutation(system, x.Refutation)
}

// Prove looks for a proof with refutations of at most so many nodes: see P4.13.
func Prove(p api.Protocol, q api.Property, nodes int) (int, []api.SchemaProof, api.Errno) {
	m, e := open(p, q)
	if e != api.OK {
		return api.Unknown, nil, e
	}
	kind := api.Infeasible
	var proofs []api.SchemaProof
	for question, system := range m.questions() {
		o, e := linear.Solve(system, nodes)
		if e != api.OK {
			return api.Unknown, nil, e
		}
		switch o.Kind {
		case api.Feasible:
			return api.Feasible, nil, api.OK
		case api.Unknown:
			kind = api.Unknown // a later system may still have a solution
		}
		question.Refutation = o.Refutation
		proofs = append(proofs, question)
	}
	if kind != api.Infeasible {
		return kind, nil, api.OK
	}
	return kind, proofs, api.OK
}
