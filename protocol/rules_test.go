package protocol

import (
	"testing"

	"familycheck/api"
)

// ruleErrors checks the spoilers of the rule number i of a family: each alone, and before each later one.
func ruleErrors(t *testing.T, make func() api.Protocol, i int, list []ruleSpoiler) {
	t.Helper()
	var all []spoiler
	for _, x := range list {
		all = append(all, spoiler{x.e, func(p *api.Protocol) { x.spoil(&p.Rules[i]) }})
	}
	inOrder(t, make, all)
}

type ruleSpoiler struct {
	e     api.Errno
	spoil func(r *api.Rule)
}

func setPartnerFrom(x int) func(r *api.Rule) { return func(r *api.Rule) { r.PartnerFrom = x } }
func setPartnerTo(x int) func(r *api.Rule)   { return func(r *api.Rule) { r.PartnerTo = x } }
func setResponse(x ...int) func(r *api.Rule) { return func(r *api.Rule) { r.Response = x } }
func setExists(x ...int) func(r *api.Rule)   { return func(r *api.Rule) { r.Exists = x } }
func setForall(x ...int) func(r *api.Rule)   { return func(r *api.Rule) { r.Forall = x } }
func setSend(x ...int) func(r *api.Rule)     { return func(r *api.Rule) { r.Send = x } }
func setLeft(x ...int) func(r *api.Rule)     { return func(r *api.Rule) { r.Left = x } }
func setRight(x ...int) func(r *api.Rule)    { return func(r *api.Rule) { r.Right = x } }
func setParent(x ...int) func(r *api.Rule)   { return func(r *api.Rule) { r.Parent = x } }
func setRead(x int) func(r *api.Rule)        { return func(r *api.Rule) { r.Read = x } }
func setWrite(x int) func(r *api.Rule)       { return func(r *api.Rule) { r.Write = x } }
func setAt(x int) func(r *api.Rule)          { return func(r *api.Rule) { r.At = x } }
func setDirection(x int) func(r *api.Rule)   { return func(r *api.Rule) { r.Direction = x } }
func setFrom(x int) func(r *api.Rule)        { return func(r *api.Rule) { r.From = x } }
func setTo(x int) func(r *api.Rule)          { return func(r *api.Rule) { r.To = x } }
func setKind(x int) func(r *api.Rule)        { return func(r *api.Rule) { r.Kind = x } }
func setName(x string) func(r *api.Rule)     { return func(r *api.Rule) { r.Name = x } }
func setGuards(x ...api.Threshold) func(r *api.Rule) {
	return func(r *api.Rule) { r.Guards = x }
}

// P2.3
func TestLocalErrors(t *testing.T) {
	good := api.Threshold{Coef: 1}
	ruleErrors(t, full, 0, []ruleSpoiler{
		{api.ErrName, setName("")}, {api.ErrName, setName("local")}, {api.ErrName, setName("Loc")},
		{api.ErrRule, setKind(0)}, {api.ErrRule, setKind(-1)}, {api.ErrRule, setKind(6)}, {api.ErrRule, setKind(api.Neighbor)}, {api.ErrRule, setKind(api.Pass)},
		{api.ErrRule, setPartnerFrom(1)}, {api.ErrRule, setPartnerTo(-1)}, {api.ErrRule, setResponse(0)}, {api.ErrRule, setAt(1)},
		{api.ErrRule, setLeft(0)}, {api.ErrRule, setRight(0)}, {api.ErrRule, setParent(0)}, {api.ErrRule, setDirection(1)},
		{api.ErrState, setFrom(4)}, {api.ErrState, setFrom(-1)}, {api.ErrState, setTo(4)}, {api.ErrState, setTo(minInt)},
		{api.ErrLarge, setGuards(good, api.Threshold{Coef: 1, Bound: api.Linear{F: 101}}, api.Threshold{Message: 3})},
		{api.ErrArg, setGuards(good, api.Threshold{Bound: api.Linear{F: 101}}, api.Threshold{Message: 3})},
		{api.ErrState, setGuards(good, api.Threshold{Message: 3, Bound: api.Linear{F: 101}}, api.Threshold{})},
		{api.ErrState, setGuards(good, api.Threshold{Message: -1, Coef: 1})},
		{api.ErrArg, setGuards(api.Threshold{Coef: -1})}, {api.ErrArg, setGuards(api.Threshold{Coef: 101})}, {api.ErrArg, setGuards(good, good, api.Threshold{Coef: 0})},
		{api.ErrLarge, setGuards(api.Threshold{Coef: 1, Bound: api.Linear{C: -101}})}, {api.ErrLarge, setGuards(api.Threshold{Coef: 1, Bound: api.Linear{N: minInt}})}, {api.ErrLarge, setGuards(api.Threshold{Coef: 1, Bound: api.Linear{T: maxInt}})},
		{api.ErrLarge, setGuards(good, good, good)},
		{api.ErrState, setExists(2, 1, 4)}, {api.ErrState, setExists(-1)}, {api.ErrArg, setExists(2, 1)}, {api.ErrArg, setExists(1, 1)},
		{api.ErrState, setForall(2, 1, 4)}, {api.ErrState, setForall(-1)}, {api.ErrArg, setForall(2, 1)}, {api.ErrArg, setForall(1, 1)},
		{api.ErrState, setRead(-2)}, {api.ErrState, setRead(2)}, {api.ErrState, setWrite(-2)}, {api.ErrState, setWrite(2)},
		{api.ErrState, setSend(2, 1, 3)}, {api.ErrState, setSend(-1)}, {api.ErrArg, setSend(2, 1)}, {api.ErrArg, setSend(1, 1)},
	})
	ruleErrors(t, full, 0, []ruleSpoiler{{api.OK, setGuards(good, good)}, {api.OK, setGuards(api.Threshold{Message: 2, Coef: 100, Bound: api.Linear{C: 100, N: -100, T: 100, F: -100}})}})
}

// P2.3
func TestPairErrors(t *testing.T) {
	ruleErrors(t, full, 1, []ruleSpoiler{
		{api.ErrName, setName("loc")}, {api.ErrName, setName("abcdefghijklm")},
		{api.ErrRule, setKind(api.Pass)},
		{api.ErrRule, setResponse(0)}, {api.ErrRule, setGuards(api.Threshold{})}, {api.ErrRule, setExists(0)}, {api.ErrRule, setForall(9)}, {api.ErrRule, setSend(0)},
		{api.ErrRule, setAt(1)}, {api.ErrRule, setLeft(0)}, {api.ErrRule, setRight(0)}, {api.ErrRule, setParent(0)}, {api.ErrRule, setDirection(2)},
		{api.ErrState, setFrom(4)}, {api.ErrState, setTo(-1)}, {api.ErrState, setPartnerFrom(4)}, {api.ErrState, setPartnerFrom(-1)}, {api.ErrState, setPartnerTo(4)}, {api.ErrState, setPartnerTo(-1)},
		{api.ErrState, setRead(2)}, {api.ErrState, setRead(-2)}, {api.ErrState, setWrite(2)}, {api.ErrState, setWrite(-2)},
	})
}

// P2.3
func TestBroadcastErrors(t *testing.T) {
	ruleErrors(t, full, 2, []ruleSpoiler{
		{api.ErrName, setName("two")},
		{api.ErrRule, setKind(api.Neighbor)},
		{api.ErrRule, setPartnerFrom(1)}, {api.ErrRule, setPartnerTo(1)}, {api.ErrRule, setGuards(api.Threshold{})}, {api.ErrRule, setExists(0)}, {api.ErrRule, setForall(0)}, {api.ErrRule, setSend(9)},
		{api.ErrRule, setAt(3)}, {api.ErrRule, setLeft(0)}, {api.ErrRule, setRight(0)}, {api.ErrRule, setParent(0)}, {api.ErrRule, setDirection(9)},
		{api.ErrState, setFrom(-1)}, {api.ErrState, setTo(4)},
		{api.ErrArg, setResponse()}, {api.ErrArg, setResponse(0, 1, 9)}, {api.ErrArg, setResponse(0, 1, 2, 3, 9)},
		{api.ErrState, setResponse(0, 1, 2, 4)}, {api.ErrState, setResponse(-1, 1, 2, 3)},
		{api.ErrState, setRead(2)}, {api.ErrState, setRead(-2)}, {api.ErrState, setWrite(2)}, {api.ErrState, setWrite(-2)},
	})
}

// P2.3
func TestNeighborErrors(t *testing.T) {
	list := []ruleSpoiler{
		{api.ErrName, setName("right")},
		{api.ErrRule, setKind(api.Local)}, {api.ErrRule, setKind(api.Pair)}, {api.ErrRule, setKind(api.Broadcast)},
		{api.ErrRule, setPartnerFrom(1)}, {api.ErrRule, setPartnerTo(1)}, {api.ErrRule, setResponse(0)}, {api.ErrRule, setGuards(api.Threshold{})}, {api.ErrRule, setExists(0)}, {api.ErrRule, setForall(0)}, {api.ErrRule, setSend(0)}, {api.ErrRule, setDirection(1)},
		{api.ErrRule, setRead(0)}, {api.ErrRule, setWrite(0)}, {api.ErrRule, setRead(-2)}, {api.ErrRule, setWrite(1)},
		{api.ErrState, setFrom(3)}, {api.ErrState, setTo(-1)},
		{api.ErrState, setLeft(1, 0, 3)}, {api.ErrState, setLeft(-1)}, {api.ErrArg, setLeft(1, 0)}, {api.ErrArg, setLeft(1, 1)},
		{api.ErrState, setRight(1, 0, 3)}, {api.ErrState, setRight(-1)}, {api.ErrArg, setRight(1, 0)}, {api.ErrArg, setRight(1, 1)},
	}
	late := []ruleSpoiler{{api.ErrArg, setAt(-1)}, {api.ErrArg, setAt(3)}}
	parent := []ruleSpoiler{{api.ErrState, setParent(1, 0, 3)}, {api.ErrState, setParent(-1)}, {api.ErrArg, setParent(1, 0)}, {api.ErrArg, setParent(1, 1)}}
	ring := func() api.Protocol {
		p := row()
		p.Topology = api.Ring
		p.Rules[0].At, p.Rules[1].At = api.AtAny, api.AtAny
		return p
	}
	tree := func() api.Protocol {
		p := row()
		p.Topology = api.Tree
		p.Rules = p.Rules[:3]
		return p
	}
	ruleErrors(t, row, 0, append(append([]ruleSpoiler{{api.ErrRule, setParent(0)}}, list[1:]...), late...))
	ruleErrors(t, ring, 0, append(append([]ruleSpoiler{{api.ErrRule, setParent(0)}}, list[1:]...), append(late, ruleSpoiler{api.ErrArg, setAt(api.AtFirst)}, ruleSpoiler{api.ErrArg, setAt(api.AtLast)})...))
	ruleErrors(t, tree, 0, append(append(list, parent...), late...))
	ruleErrors(t, tree, 0, []ruleSpoiler{{api.OK, setAt(api.AtLast)}, {api.OK, setParent(0, 1, 2)}, {api.OK, setLeft()}})
	ruleErrors(t, row, 0, list[:1])
}

// P2.3
func TestPassErrors(t *testing.T) {
	list := []ruleSpoiler{
		{api.ErrName, setName("r1")},
		{api.ErrRule, setKind(api.Local)}, {api.ErrRule, setKind(api.Pair)}, {api.ErrRule, setKind(api.Broadcast)},
		{api.ErrRule, setResponse(0)}, {api.ErrRule, setGuards(api.Threshold{})}, {api.ErrRule, setExists(0)}, {api.ErrRule, setForall(0)}, {api.ErrRule, setSend(0)},
		{api.ErrRule, setAt(1)}, {api.ErrRule, setLeft(0)}, {api.ErrRule, setRight(0)}, {api.ErrRule, setParent(0)},
		{api.ErrRule, setRead(0)}, {api.ErrRule, setWrite(0)},
		{api.ErrState, setFrom(3)}, {api.ErrState, setTo(-1)}, {api.ErrState, setPartnerFrom(3)}, {api.ErrState, setPartnerFrom(-1)}, {api.ErrState, setPartnerTo(3)}, {api.ErrState, setPartnerTo(-1)},
		{api.ErrArg, setDirection(0)}, {api.ErrArg, setDirection(-1)}, {api.ErrArg, setDirection(5)},
	}
	flat := append(list, ruleSpoiler{api.ErrArg, setDirection(api.ToChild)}, ruleSpoiler{api.ErrArg, setDirection(api.ToParent)})
	ring := func() api.Protocol {
		p := tok()
		p.Rules = append([]api.Rule{{Name: "r1", Kind: api.Neighbor, Read: -1, Write: -1}}, p.Rules...)
		return p
	}
	ruleErrors(t, row, 3, flat)
	ruleErrors(t, ring, 1, flat)
	ruleErrors(t, oak, 2, append(list, ruleSpoiler{api.ErrArg, setDirection(api.ToRight)}, ruleSpoiler{api.ErrArg, setDirection(api.ToLeft)}))
	ruleErrors(t, ring, 1, []ruleSpoiler{{api.OK, setDirection(api.ToLeft)}})
	ruleErrors(t, oak, 2, []ruleSpoiler{{api.OK, setDirection(api.ToChild)}})
}

// P2.3: without values and messages.
func TestRulesOfBareCliques(t *testing.T) {
	bare := func() api.Protocol {
		return api.Protocol{Name: "p", Topology: api.Clique, States: []string{"a", "b"}, Initial: []int{0}, Rules: []api.Rule{{Name: "r", Kind: api.Local, Read: -1, Write: -1}}}
	}
	ruleErrors(t, bare, 0, []ruleSpoiler{{api.ErrState, setGuards(api.Threshold{Coef: 1})}, {api.ErrState, setRead(0)}, {api.ErrState, setWrite(0)}, {api.ErrState, setSend(0)}})
	ruleErrors(t, bare, 0, []ruleSpoiler{{api.OK, setKind(api.Pair)}})
}

// P2.2, P2.3: the rules are examined one by one, and only names of earlier rules matter.
func TestRulesOneByOne(t *testing.T) {
	inOrder(t, full, []spoiler{
		{api.ErrArg, func(p *api.Protocol) { p.Rules[0].Send = []int{1, 1} }},
		{api.ErrName, func(p *api.Protocol) { p.Rules[1].Name = "loc" }},
		{api.ErrState, func(p *api.Protocol) { p.Rules[2].Write = 7 }},
		{api.ErrName, func(p *api.Protocol) { p.Rules[3].Name = "two" }},
		{api.ErrName, func(p *api.Protocol) { p.Rules[3].Name = "" }},
	})
	p := full()
	p.Name, p.Rules[0].Name, p.Rules[1].Name = "a", "a", "m0"
	if e := Validate(p); e != api.OK {
		t.Errorf("a rule has the name of a state: error %d", e)
	}
	p.Rules[0].Send, p.Rules[1].Name = []int{1, 1}, "a"
	if e := Validate(p); e != api.ErrArg {
		t.Errorf("an earlier rule has another error: error %d", e)
	}
}

// P2.3: the empty value of Read and Write is -1 and not 0, which is a value.
func TestEmptyReadAndWrite(t *testing.T) {
	p := tok()
	p.Rules[0].Read = 0
	if e := Validate(p); e != api.ErrRule {
		t.Errorf("Read: error %d", e)
	}
	p = tok()
	p.Rules[0].Write = 0
	if e := Validate(p); e != api.ErrRule {
		t.Errorf("Write: error %d", e)
	}
}
