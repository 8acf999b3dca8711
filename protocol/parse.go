package protocol

import (
	"slices"
	"strconv"
	"strings"

	"familycheck/api"
)

// Parse returns the family whose text is text.
func Parse(text string) (p api.Protocol, e api.Errno) {
	if len(text) > api.MaxText {
		return api.Protocol{}, api.ErrLarge
	}
	defer func() {
		if recover() != nil {
			p, e = api.Protocol{}, api.ErrSyntax
		}
	}()
	p = newReader(text).family()
	if own, code := Format(p); code != api.OK || own != text {
		stop()
	}
	return p, api.OK
}

// ParseProperty returns the property of p whose text is text.
func ParseProperty(p api.Protocol, text string) (q api.Property, e api.Errno) {
	if code := Validate(p); code != api.OK {
		return api.Property{}, code
	}
	if len(text) > api.MaxText {
		return api.Property{}, api.ErrLarge
	}
	defer func() {
		if recover() != nil {
			q, e = api.Property{}, api.ErrSyntax
		}
	}()
	q = newReader(text).property(p)
	if own, code := FormatProperty(p, q); code != api.OK || own != text {
		stop()
	}
	return q, api.OK
}

// stop ends the reading of a text that nothing has. The exported functions recover it.
func stop() {
	panic(api.ErrSyntax)
}

// A reader reads the words of a text one after another, and stops at a word that cannot stand there.
//
// It reads the text of each valid family as this family. It looks neither at the blanks and line feeds between the words nor at what follows the last rule, and reads numbers in other forms too, because its callers compare the text of the result with the text that they were given.
type reader struct {
	words []string
}

func newReader(text string) *reader {
	return &reader{words: strings.Fields(text)}
}

func (r *reader) next() string {
	if len(r.words) == 0 {
		stop()
	}
	word := r.words[0]
	r.words = r.words[1:]
	return word
}

// accept reads the next word if it is the given one.
func (r *reader) accept(word string) bool {
	if len(r.words) == 0 || r.words[0] != word {
		return false
	}
	r.words = r.words[1:]
	return true
}

func (r *reader) expect(word string) {
	if r.next() != word {
		stop()
	}
}

// choice reads a word and returns its place in the list.
func (r *reader) choice(list []string) int {
	return placeOf(r.next(), list)
}

func placeOf(word string, list []string) int {
	i := slices.Index(list, word)
	if i < 0 {
		stop()
	}
	return i
}

// choices reads words as long as they are in the list.
func (r *reader) choices(list []string) []int {
	var places []int
	for len(r.words) > 0 && slices.Contains(list, r.words[0]) {
		i := r.choice(list)
		places = append(places, i)
	}
	return places
}

// newNames reads words up to a literal word.
func (r *reader) newNames() []string {
	var names []string
	for len(r.words) > 0 && !isReserved(r.words[0]) {
		names = append(names, r.next())
	}
	return names
}

// part reads names of the list behind a literal word, if that word follows.
func (r *reader) part(word string, list []string) []int {
	if !r.accept(word) {
		return nil
	}
	return r.choices(list)
}

// option reads one name of the list behind a literal word, if that word follows.
func (r *reader) option(word string, list []string, missing int) int {
	if !r.accept(word) {
		return missing
	}
	return r.choice(list)
}

func (r *reader) family() api.Protocol {
	var p api.Protocol
	r.expect("protocol")
	p.Name = r.next()
	r.expect("topology")
	p.Topology = r.choice(topologyWords())
	r.expect("states")
	p.States = r.newNames()
	if r.accept("messages") {
		p.Messages = r.newNames()
	}
	if r.accept("values") {
		p.Values = r.newNames()
	}
	p.Fault = r.option("faults", faultWords(), api.NoFault)
	for r.accept("resilience") {
		p.Resilience = append(p.Resilience, readLinear(r.next()))
	}
	p.Initial = r.part("initial", p.States)
	p.Leader = r.part("leader", p.States)
	for r.accept("rule") {
		p.Rules = append(p.Rules, r.rule(p))
	}
	return p
}

// rule reads a rule of the family p, whose names have been read.
func (r *reader) rule(p api.Protocol) api.Rule {
	x := api.Rule{Read: none, Write: none}
	x.Name = r.next()
	x.Kind = r.choice(kindWords())
	x.From = r.choice(p.States)
	x.To = r.choice(p.States)
	switch x.Kind {
	case api.Local:
		x.Guards = r.guards(p.Messages)
		x.Exists = r.part("exists", p.States)
		x.Forall = r.part("forall", p.States)
		r.shared(&x, p.Values)
		x.Send = r.part("send", p.Messages)
	case api.Pair:
		r.partner(&x, p.States)
		r.shared(&x, p.Values)
	case api.Broadcast:
		x.Response = r.part("all", p.States)
		r.shared(&x, p.Values)
	case api.Neighbor:
		x.At = r.option("at", positionWords(), api.AtAny)
		x.Left = r.part("left", p.States)
		x.Right = r.part("right", p.States)
		x.Parent = r.part("parent", p.States)
	case api.Pass:
		r.partner(&x, p.States)
		x.Direction = r.choice(directionWords())
	}
	return x
}

func (r *reader) shared(x *api.Rule, values []string) {
	x.Read = r.option("read", values, none)
	x.Write = r.option("write", values, none)
}

func (r *reader) partner(x *api.Rule, states []string) {
	x.PartnerFrom = r.choice(states)
	x.PartnerTo = r.choice(states)
}

func (r *reader) guards(messages []string) []api.Threshold {
	var guards []api.Threshold
	for r.accept("when") {
		coef, message, _ := strings.Cut(r.next(), "*")
		g := api.Threshold{Message: placeOf(message, messages), Coef: readNumber(coef)}
		r.expect(">=")
		g.Bound = readLinear(r.next())
		guards = append(guards, g)
	}
	return guards
}

func (r *reader) property(p api.Protocol) api.Property {
	var q api.Property
	r.expect("property")
	q.Name = r.next()
	q.Kind = r.choice(propertyWords())
	q.Start = r.part("start", p.States)
	for r.accept("count") {
		var c api.Count
		c.Least = readNumber(r.next())
		c.States = r.choices(p.States)
		q.Bad = append(q.Bad, c)
	}
	q.Adjacent = r.part("adjacent", p.States)
	q.Goal = r.part("goal", p.States)
	return q
}

func readLinear(text string) api.Linear {
	var l api.Linear
	for _, item := range strings.Split(strings.ReplaceAll(text, "-", "+-"), "+") {
		factor := strings.TrimRight(item, "ntf")
		switch {
		case item == "":
			// A sign at the beginning has no item in front.
		case strings.HasSuffix(item, "n"):
			l.N = readFactor(factor)
		case strings.HasSuffix(item, "t"):
			l.T = readFactor(factor)
		case strings.HasSuffix(item, "f"):
			l.F = readFactor(factor)
		default:
			l.C = readNumber(item)
		}
	}
	return l
}

// readFactor reads what stands in front of a parameter.
func readFactor(text string) int {
	switch text {
	case "":
		return 1
	case "-":
		return -1
	}
	return readNumber(strings.TrimSuffix(text, "*"))
}

func readNumber(text string) int {
	x, e := strconv.Atoi(text)
	if e != nil {
		stop()
	}
	return x
}
