package threshold

import (
	"slices"

	"familycheck/api"
)

// Variable is a variable of the systems of a schema: see P4.4.
type Variable struct {
	Kind    int
	Segment int
	Index   int
}

// The kinds of variables: the parameters of the size, how many processes start in a state, and how often they take a rule in a segment.
const (
	ParamN = iota
	ParamT
	ParamF
	CorrectStart
	FaultyStart
	CorrectFire
	FaultyFire
	kinds
)

// What a Variable of a valid family stays below.
const (
	mostSegments = api.MaxThresholds + 1
	mostIndexes  = max(api.MaxStates, api.MaxRules)
)

// layout is a schema of a model with its variables.
type layout struct {
	*model
	schema    []int
	variables []Variable
	places    [kinds][mostSegments][mostIndexes]int // for each variable one more than its coordinate; 0 where there is none
}

// Variables returns the variables of the systems of a schema in the order of the coordinates.
func Variables(p api.Protocol, q api.Property, schema []int) ([]Variable, api.Errno) {
	l, e := openSchema(p, q, schema)
	if e != api.OK {
		return nil, e
	}
	return l.variables, api.OK
}

// openSchema is open for functions that also take a schema.
func openSchema(p api.Protocol, q api.Property, schema []int) (*layout, api.Errno) {
	m, e := open(p, q)
	if e != api.OK {
		return nil, e
	}
	if !m.isSchema(schema) {
		return nil, api.ErrArg
	}
	return m.layoutOf(schema), api.OK
}

func (m *model) layoutOf(schema []int) *layout {
	l := &layout{model: m, schema: schema}
	l.declare(ParamN, 0, 0)
	l.declare(ParamT, 0, 0)
	l.declare(ParamF, 0, 0)
	for _, x := range m.sides {
		for _, state := range x.states {
			l.declare(x.start, 0, state)
		}
	}
	for segment := range l.segments() {
		for rule := range m.family.Rules {
			if !l.isAllowed(rule, segment) {
				continue
			}
			for _, x := range m.sides {
				l.declare(x.fire, segment, rule)
			}
		}
	}
	return l
}

func (l *layout) declare(kind, segment, index int) {
	l.variables = append(l.variables, Variable{kind, segment, index})
	l.places[kind][segment][index] = len(l.variables)
}

// segments returns the number of segments.
func (l *layout) segments() int {
	return len(l.schema) + 1
}

func (l *layout) isAllowed(rule, segment int) bool {
	for _, guard := range l.family.Rules[rule].Guards {
		if !slices.Contains(l.schema[:segment], slices.Index(l.thresholds, guard)) {
			return false
		}
	}
	return true
}

// find returns the coordinate of a variable; false if the schema does not have it.
func (l *layout) find(kind, segment, index int) (int, bool) {
	place := l.places[kind][segment][index]
	return place - 1, place > 0
}
