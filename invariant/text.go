package invariant

import (
	"slices"
	"strings"

	"familycheck/api"
)

const (
	clauseWord = "all"
	valuePart  = "value="
	somePart   = "some="
	between    = "|" // stands between two names of a set
)

// FormatClause writes a clause, such as `all c value=held some=i|w`.
func FormatClause(p api.Protocol, c api.Clause) (string, api.Errno) {
	if errno := ValidClause(p, c); errno != api.OK {
		return "", errno
	}
	words := []string{clauseWord}
	for _, states := range c.Each {
		words = append(words, joinNames(p.States, states))
	}
	if len(c.Values) > 0 {
		words = append(words, valuePart+joinNames(p.Values, c.Values))
	}
	if len(c.Some) > 0 {
		words = append(words, somePart+joinNames(p.States, c.Some))
	}
	return strings.Join(words, " "), api.OK
}

func joinNames(names []string, set []int) string {
	var list []string
	for _, i := range set {
		list = append(list, names[i])
	}
	return strings.Join(list, between)
}

// ParseClause returns the clause whose text this is. It reads leniently, and accepts the clause only if FormatClause writes the same text.
func ParseClause(p api.Protocol, text string) (api.Clause, api.Errno) {
	if errno := monadicError(p); errno != api.OK {
		return api.Clause{}, errno
	}
	if len(text) > api.MaxText {
		return api.Clause{}, api.ErrLarge
	}
	c := readClause(p, text)
	if again, errno := FormatClause(p, c); errno != api.OK || again != text {
		return api.Clause{}, api.ErrSyntax
	}
	return c, api.OK
}

// readClause returns the clause that text has if it has one. A name that does not exist becomes the index -1, which no valid clause has.
func readClause(p api.Protocol, text string) api.Clause {
	var c api.Clause
	for _, word := range strings.Split(text, " ")[1:] {
		if names, ok := strings.CutPrefix(word, valuePart); ok {
			c.Values = readNames(p.Values, names)
		} else if names, ok := strings.CutPrefix(word, somePart); ok {
			c.Some = readNames(p.States, names)
		} else {
			c.Each = append(c.Each, readNames(p.States, word))
		}
	}
	return c
}

func readNames(names []string, text string) []int {
	var set []int
	for name := range strings.SplitSeq(text, between) {
		set = append(set, slices.Index(names, name))
	}
	return set
}
