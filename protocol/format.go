package protocol

import (
	"slices"
	"strconv"
	"strings"

	"familycheck/api"
)

// The words of the texts for the numbers of package api, by these numbers. The word of a number that is left out or invalid is empty.

func topologyWords() []string {
	return []string{api.Clique: "clique", api.Line: "line", api.Ring: "ring", api.Tree: "tree"}
}

func faultWords() []string {
	return []string{api.Crash: "crash", api.Omission: "omission", api.Arbitrary: "arbitrary"}
}

func kindWords() []string {
	return []string{api.Local: "local", api.Pair: "pair", api.Broadcast: "broadcast", api.Neighbor: "neighbor", api.Pass: "pass"}
}

func positionWords() []string {
	return []string{api.AtFirst: "first", api.AtLast: "last"}
}

func directionWords() []string {
	return []string{api.ToRight: "right", api.ToLeft: "left", api.ToChild: "child", api.ToParent: "parent"}
}

func propertyWords() []string {
	return []string{api.Never: "never", api.Eventually: "eventually"}
}

// FormatLinear returns the text of l, the empty text if a number of l is beyond MaxFactor.
func FormatLinear(l api.Linear) string {
	if isLarge(l) {
		return ""
	}
	text := formatTerm(l.N, "n") + formatTerm(l.T, "t") + formatTerm(l.F, "f")
	if l.C != 0 {
		text += formatSigned(l.C)
	}
	if text == "" {
		return "0"
	}
	return strings.TrimPrefix(text, "+")
}

// formatTerm returns a term with its sign, nothing for the factor 0.
func formatTerm(factor int, parameter string) string {
	switch factor {
	case 0:
		return ""
	case 1:
		return "+" + parameter
	case -1:
		return "-" + parameter
	}
	return formatSigned(factor) + "*" + parameter
}

func formatSigned(x int) string {
	if x < 0 {
		return strconv.Itoa(x)
	}
	return "+" + strconv.Itoa(x)
}

// Format returns the text of p: see P2.13.
func Format(p api.Protocol) (string, api.Errno) {
	if e := Validate(p); e != api.OK {
		return "", e
	}
	return formatFamily(p), api.OK
}

func formatFamily(p api.Protocol) string {
	text := formatLine("protocol", p.Name) +
		formatLine("topology", topologyWords()[p.Topology]) +
		formatLine("states", p.States...) +
		formatLine("messages", p.Messages...) +
		formatLine("values", p.Values...)
	if p.Fault != api.NoFault {
		text += formatLine("faults", faultWords()[p.Fault])
	}
	for _, l := range p.Resilience {
		text += formatLine("resilience", FormatLinear(l))
	}
	text += formatLine("initial", pick(p.States, p.Initial...)...)
	text += formatLine("leader", pick(p.States, p.Leader...)...)
	for _, r := range p.Rules {
		text += formatLine("rule", ruleWords(p, r)...)
	}
	return text
}

// formatLine returns a line, nothing if no words follow its first one.
func formatLine(first string, words ...string) string {
	if len(words) == 0 {
		return ""
	}
	return first + " " + strings.Join(words, " ") + "\n"
}

func ruleWords(p api.Protocol, r api.Rule) []string {
	words := []string{r.Name, kindWords()[r.Kind], p.States[r.From], p.States[r.To]}
	switch r.Kind {
	case api.Local:
		exists := partWords("exists", p.States, r.Exists...)
		forall := partWords("forall", p.States, r.Forall...)
		send := partWords("send", p.Messages, r.Send...)
		return slices.Concat(words, guardWords(p, r.Guards), exists, forall, sharedWords(p, r), send)
	case api.Pair:
		return slices.Concat(words, pick(p.States, r.PartnerFrom, r.PartnerTo), sharedWords(p, r))
	case api.Broadcast:
		return slices.Concat(words, partWords("all", p.States, r.Response...), sharedWords(p, r))
	case api.Neighbor:
		return slices.Concat(words, neighborWords(p, r))
	}
	return slices.Concat(words, pick(p.States, r.PartnerFrom, r.PartnerTo), pick(directionWords(), r.Direction))
}

func guardWords(p api.Protocol, guards []api.Threshold) []string {
	var words []string
	for _, g := range guards {
		words = append(words, "when", strconv.Itoa(g.Coef)+"*"+p.Messages[g.Message], ">=", FormatLinear(g.Bound))
	}
	return words
}

func sharedWords(p api.Protocol, r api.Rule) []string {
	return slices.Concat(optionWords("read", p.Values, r.Read, none), optionWords("write", p.Values, r.Write, none))
}

func neighborWords(p api.Protocol, r api.Rule) []string {
	at := optionWords("at", positionWords(), r.At, api.AtAny)
	left := partWords("left", p.States, r.Left...)
	right := partWords("right", p.States, r.Right...)
	return slices.Concat(at, left, right, partWords("parent", p.States, r.Parent...))
}

// optionWords returns a literal word and the name of the number x, nothing if x is the missing one.
func optionWords(word string, names []string, x, missing int) []string {
	if x == missing {
		return nil
	}
	return partWords(word, names, x)
}

// partWords returns a literal word and the names of a list, nothing if the list is empty.
func partWords(word string, names []string, list ...int) []string {
	if len(list) == 0 {
		return nil
	}
	return append([]string{word}, pick(names, list...)...)
}

func pick(names []string, list ...int) []string {
	var picked []string
	for _, i := range list {
		picked = append(picked, names[i])
	}
	return picked
}

// FormatProperty returns the text of q, a property of p: see P2.15.
func FormatProperty(p api.Protocol, q api.Property) (string, api.Errno) {
	if e := ValidateProperty(p, q); e != api.OK {
		return "", e
	}
	words := []string{"property", q.Name, propertyWords()[q.Kind]}
	words = append(words, partWords("start", p.States, q.Start...)...)
	for _, c := range q.Bad {
		words = append(words, "count", strconv.Itoa(c.Least))
		words = append(words, pick(p.States, c.States...)...)
	}
	words = append(words, partWords("adjacent", p.States, q.Adjacent...)...)
	words = append(words, partWords("goal", p.States, q.Goal...)...)
	return strings.Join(words, " "), api.OK
}
