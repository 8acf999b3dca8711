package threshold

import (
	"slices"

	"familycheck/api"
	"familycheck/linear"
)

// noCase is the number with which a system describes all runs of a schema.
const noCase = -1

// Build returns the system of a schema and a case: see P4.5.
func Build(p api.Protocol, q api.Property, schema []int, number int) (api.System, api.Errno) {
	l, e := openCase(p, q, schema, number)
	if e != api.OK {
		return api.System{}, e
	}
	return l.system(number), api.OK
}

// Fix returns the system of a schema and a case at one size.
func Fix(p api.Protocol, q api.Property, schema []int, number int, s api.Size) (api.System, api.Errno) {
	if _, e := openAt(p, q, s); e != api.OK {
		return api.System{}, e
	}
	system, e := Build(p, q, schema, number)
	if e != api.OK {
		return api.System{}, e
	}
	for v, value := range [...]int{ParamN: s.N, ParamT: s.T, ParamF: s.F} {
		if system, e = linear.Substitute(system, v, value); e != api.OK {
			return api.System{}, e
		}
	}
	return system, api.OK
}

// openCase is openSchema for functions that also take the number of a case.
func openCase(p api.Protocol, q api.Property, schema []int, number int) (*layout, api.Errno) {
	l, e := openSchema(p, q, schema)
	if e != api.OK {
		return nil, e
	}
	if number != noCase && !l.isCase(number) {
		return nil, api.ErrArg
	}
	return l, api.OK
}

func (l *layout) system(number int) api.System {
	rows := slices.Concat(l.sizeRows(), l.startRows())
	for segment := range l.segments() {
		rows = append(rows, l.segmentRows(segment)...)
	}
	switch {
	case number == noCase:
	case l.property.Kind == api.Never:
		rows = append(rows, l.badRows()...)
	default:
		rows = append(rows, l.stoppedRows(number)...)
	}
	return api.System{Vars: len(l.variables), Rows: rows}
}

// sizeRows demand an admissible size.
func (l *layout) sizeRows() []api.Row {
	conditions := []api.Linear{{C: -1, N: 1}, {N: 1, T: -1}, {N: 1, F: -1}}
	if l.family.Fault == api.NoFault {
		conditions = append(conditions, api.Linear{T: -1}, api.Linear{F: -1})
	}
	var rows []api.Row
	for _, condition := range append(conditions, l.family.Resilience...) {
		f := l.newForm()
		f.addLinear(1, condition)
		rows = append(rows, f.row)
	}
	return rows
}

// startRows demand that as many processes start as there are.
func (l *layout) startRows() []api.Row {
	var rows []api.Row
	for _, x := range l.sides {
		for _, sign := range [2]int{1, -1} {
			f := l.newForm()
			for _, state := range x.states {
				f.addVariable(sign, x.start, 0, state)
			}
			f.addLinear(-sign, x.count)
			rows = append(rows, f.row)
		}
	}
	return rows
}

// segmentRows demand that the threshold of the segment holds when it begins, and that no more processes leave a state than there are.
func (l *layout) segmentRows(segment int) []api.Row {
	var rows []api.Row
	if segment > 0 {
		rows = append(rows, l.unlockedRow(segment))
	}
	for _, x := range l.sides {
		for state := range l.family.States {
			f := l.newForm()
			f.addMembers(1, x, state, segment)
			rows = append(rows, f.row)
		}
	}
	return rows
}

func (l *layout) unlockedRow(segment int) api.Row {
	guard := l.thresholds[l.schema[segment-1]]
	f := l.newForm()
	for _, x := range l.sides {
		f.addSent(guard.Coef, x, guard.Message, segment)
	}
	if l.family.Fault == api.Arbitrary {
		f.addLinear(guard.Coef, api.Linear{F: 1})
	}
	f.addLinear(-1, guard.Bound)
	return f.row
}

// badRows demand a bad configuration at the end.
func (l *layout) badRows() []api.Row {
	var rows []api.Row
	for _, count := range l.property.Bad {
		f := l.newForm()
		for _, state := range count.States {
			f.addMembers(1, l.sides[0], state, len(l.schema))
		}
		f.addLinear(1, api.Linear{C: -count.Least})
		rows = append(rows, f.row)
	}
	return rows
}

// stoppedRows demand that a correct process is outside the goal at the end, and that no rule is forced there, for the reason that the case chooses.
func (l *layout) stoppedRows(number int) []api.Row {
	f := l.newForm()
	for state := range l.family.States {
		if !slices.Contains(l.property.Goal, state) {
			f.addMembers(1, l.sides[0], state, len(l.schema))
		}
	}
	f.addLinear(1, api.Linear{C: -1})
	rows := []api.Row{f.row}
	for rule, reason := range l.choice(number) {
		r := l.family.Rules[rule]
		if reason == 0 {
			f := l.newForm()
			f.addMembers(-1, l.sides[0], r.From, len(l.schema))
			rows = append(rows, f.row)
		} else {
			rows = append(rows, l.unforcedRow(r.Guards[reason-1]))
		}
	}
	return rows
}

func (l *layout) unforcedRow(guard api.Threshold) api.Row {
	certain := l.sides
	if l.family.Fault == api.Omission {
		certain = l.sides[:1] // what faulty processes may withhold forces nothing
	}
	f := l.newForm()
	f.addLinear(1, guard.Bound)
	f.addLinear(1, api.Linear{C: -1})
	for _, x := range certain {
		f.addSent(-guard.Coef, x, guard.Message, l.segments())
	}
	return f.row
}

// form is a linear form in the variables of a layout, to which multiples of others are added.
type form struct {
	layout *layout
	row    api.Row
}

func (l *layout) newForm() *form {
	return &form{l, api.Row{Coef: make([]int, len(l.variables))}}
}

// addVariable adds nothing for a variable that the schema does not have: it would always be 0.
func (f *form) addVariable(factor, kind, segment, index int) {
	if v, ok := f.layout.find(kind, segment, index); ok {
		f.row.Coef[v] += factor
	}
}

func (f *form) addLinear(factor int, x api.Linear) {
	f.row.Const += factor * x.C
	f.addVariable(factor*x.N, ParamN, 0, 0)
	f.addVariable(factor*x.T, ParamT, 0, 0)
	f.addVariable(factor*x.F, ParamF, 0, 0)
}

// addMembers adds the number of processes of a side that are in the state after the segment.
func (f *form) addMembers(factor int, x side, state, segment int) {
	f.addVariable(factor, x.start, 0, state)
	for rule, r := range f.layout.family.Rules {
		for before := range segment + 1 {
			if r.To == state {
				f.addVariable(factor, x.fire, before, rule)
			}
			if r.From == state {
				f.addVariable(-factor, x.fire, before, rule)
			}
		}
	}
}

// addSent adds the number of messages that a side sends before the segment.
func (f *form) addSent(factor int, x side, message, segment int) {
	for rule, r := range f.layout.family.Rules {
		if !slices.Contains(r.Send, message) {
			continue
		}
		for before := range segment {
			f.addVariable(factor, x.fire, before, rule)
		}
	}
}
