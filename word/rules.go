package word

import (
	"slices"

	"familycheck/api"
)

// StepRelation relates two configurations if one step leads from the first to the second.
func StepRelation(p api.Protocol) (api.Transducer, api.Errno) {
	if e := classError(p); e != api.OK {
		return api.Transducer{}, e
	}
	return relationOf(p, p.Rules), api.OK
}

// RuleRelation relates two configurations if one step with the rule leads from the first to the second.
func RuleRelation(p api.Protocol, rule int) (api.Transducer, api.Errno) {
	if e := classError(p); e != api.OK {
		return api.Transducer{}, e
	}
	if !isBelow(rule, len(p.Rules)) {
		return api.Transducer{}, api.ErrRule
	}
	return relationOf(p, p.Rules[rule:rule+1]), api.OK
}

// The states that the patterns of all rules share. The other states of a relation lie between the places of one pattern.
const (
	atFirst    = iota // start: a pattern begins at the first letter
	atAny             // start: any letters come before a pattern
	beforeRest        // end: any letters come after a pattern
	atEnd             // end: a pattern ends at the last letter
	sharedStates
)

// change is what may happen to one letter: it is read and the other one is written.
type change struct {
	in, out int
}

// pattern describes words before and after a step: what happens to some letters one after another, while all others stay as they are.
type pattern struct {
	places [][]change // the changes that are possible at each place
	before bool       // any letters may come before the first place
	gap    int        // so many places are followed by any letters and then by the other places; 0: all follow one another
	after  bool       // any letters may come after the last place
}

// relationOf relates words as some pattern of some of the rules does.
func relationOf(p api.Protocol, rules []api.Rule) api.Transducer {
	t := api.Transducer{Letters: len(p.States), States: sharedStates, Start: []int{atFirst, atAny}, Accept: []int{beforeRest, atEnd}}
	stay := unchanged(p, nil)
	addMoves(&t, atAny, stay, atAny)
	addMoves(&t, beforeRest, stay, beforeRest)
	for _, r := range rules {
		for _, x := range patterns(p, r) {
			addPattern(&t, x, stay)
		}
	}
	return t
}

func addPattern(t *api.Transducer, x pattern, stay []change) {
	from := atFirst
	if x.before {
		from = atAny
	}
	for i, changes := range x.places {
		to := t.States
		switch {
		case i < len(x.places)-1:
			t.States++
		case x.after:
			to = beforeRest
		default:
			to = atEnd
		}
		addMoves(t, from, changes, to)
		if i+1 == x.gap {
			addMoves(t, to, stay, to)
		}
		from = to
	}
}

func addMoves(t *api.Transducer, from int, changes []change, to int) {
	for _, x := range changes {
		t.Moves = append(t.Moves, api.Move{From: from, In: x.in, Out: x.out, To: to})
	}
}

// unchanged has each of the states, or each state of the family if there are none, as it is.
func unchanged(p api.Protocol, states []int) []change {
	var list []change
	for state := range p.States {
		if len(states) == 0 || slices.Contains(states, state) {
			list = append(list, change{state, state})
		}
	}
	return list
}

// patterns returns the patterns of a rule, which together describe all its steps.
func patterns(p api.Protocol, r api.Rule) []pattern {
	places := placesOf(p, r)
	if p.Topology == api.Line {
		x := pattern{places: places, before: r.At != api.AtFirst, after: r.At != api.AtLast}
		if !x.before && len(r.Left) > 0 || !x.after && len(r.Right) > 0 {
			return nil
		}
		return []pattern{x}
	}
	list := []pattern{{places: places, before: true, after: true}}
	for i := 1; i < len(places); i++ {
		// The first i places are at the end of the word, where the ring goes on with its beginning.
		list = append(list, pattern{places: slices.Concat(places[i:], places[:i]), gap: len(places) - i})
	}
	return append(list, smallRings(p, r)...)
}

// placesOf returns what happens at the processes that the rule speaks of, from left to right, if they are different ones.
func placesOf(p api.Protocol, r api.Rule) [][]change {
	places := [][]change{{{r.From, r.To}}}
	if r.Kind == api.Pass {
		places = append(places, []change{{r.PartnerFrom, r.PartnerTo}})
		if r.Direction == api.ToLeft {
			slices.Reverse(places)
		}
		return places
	}
	if len(r.Left) > 0 {
		places = slices.Insert(places, 0, unchanged(p, r.Left))
	}
	if len(r.Right) > 0 {
		places = append(places, unchanged(p, r.Right))
	}
	return places
}

// smallRings returns the patterns of rings whose processes the rule speaks of more than once: with one process, which is its own neighbor, and with two, of which the other is both neighbors.
func smallRings(p api.Protocol, r api.Rule) []pattern {
	if r.Kind != api.Neighbor {
		return nil
	}
	var list []pattern
	self := []change{{r.From, r.To}}
	if allows(r.Left, r.From) && allows(r.Right, r.From) {
		list = append(list, pattern{places: [][]change{self}})
	}
	if len(r.Left) > 0 && len(r.Right) > 0 {
		other := slices.DeleteFunc(unchanged(p, r.Left), func(x change) bool { return !allows(r.Right, x.in) })
		list = append(list, pattern{places: [][]change{self, other}}, pattern{places: [][]change{other, self}})
	}
	return list
}

// allows reports whether a neighbor may be in the state; an empty list demands nothing.
func allows(states []int, state int) bool {
	return len(states) == 0 || slices.Contains(states, state)
}
