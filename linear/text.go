package linear

import (
	"strconv"
	"strings"

	"familycheck/api"
)

const rowEnd = " >= 0"

// FormatRow returns the text of r.
func FormatRow(r api.Row) (string, api.Errno) {
	if len(r.Coef) > api.MaxVars {
		return "", api.ErrArg
	}
	if !small(r) {
		return "", api.ErrLarge
	}
	var b strings.Builder
	for i, c := range r.Coef {
		if c != 0 {
			writeItem(&b, c, termText(c, i))
		}
	}
	if r.Const != 0 || b.Len() == 0 {
		writeItem(&b, r.Const, strconv.Itoa(max(r.Const, -r.Const)))
	}
	b.WriteString(rowEnd)
	return b.String(), api.OK
}

// termText returns the term of the variable i without its sign.
func termText(c, i int) string {
	name := "x" + strconv.Itoa(i)
	if c == 1 || c == -1 {
		return name
	}
	return strconv.Itoa(max(c, -c)) + "*" + name
}

// writeItem writes the sign of c, as the place of the item asks for it, and the item.
func writeItem(b *strings.Builder, c int, item string) {
	switch {
	case b.Len() == 0 && c < 0:
		b.WriteString("-")
	case b.Len() > 0 && c < 0:
		b.WriteString(" - ")
	case b.Len() > 0:
		b.WriteString(" + ")
	}
	b.WriteString(item)
}

// ParseRow returns the row with that many coefficients whose text is text.
func ParseRow(vars int, text string) (api.Row, api.Errno) {
	if vars < 0 || vars > api.MaxVars {
		return api.Row{}, api.ErrArg
	}
	if len(text) > api.MaxText {
		return api.Row{}, api.ErrLarge
	}
	r, ok := readRow(vars, text)
	if !ok {
		return api.Row{}, api.ErrSyntax
	}
	// readRow accepts some texts that no row has. A row has one text only.
	if t, e := FormatRow(r); e != api.OK || t != text {
		return api.Row{}, api.ErrSyntax
	}
	return r, api.OK
}

// readRow reads each text that a row has as that row.
func readRow(vars int, text string) (api.Row, bool) {
	body, ok := strings.CutSuffix(text, rowEnd)
	if !ok {
		return api.Row{}, false
	}
	r := api.Row{Coef: make([]int, vars)}
	sign := 1
	for i, word := range strings.Split(body, " ") {
		switch {
		case i%2 == 0:
			ok = readItem(&r, sign, word)
		case word == "+":
			sign = 1
		case word == "-":
			sign = -1
		default:
			ok = false
		}
		if !ok {
			return api.Row{}, false
		}
	}
	return r, true
}

// readItem puts the number of a term or a constant into r.
func readItem(r *api.Row, sign int, item string) bool {
	if rest, found := strings.CutPrefix(item, "-"); found {
		sign, item = -sign, rest
	}
	factor, name, found := strings.Cut(item, "x")
	if !found {
		c, ok := readNumber(item)
		r.Const = sign * c
		return ok
	}
	v, ok := readNumber(name)
	if !ok || v >= len(r.Coef) {
		return false
	}
	c := 1
	if factor != "" {
		c, ok = readNumber(strings.TrimSuffix(factor, "*"))
	}
	r.Coef[v] = sign * c
	return ok
}

// readNumber reads decimal digits. A number of more than 40 bits is no number of a small row.
func readNumber(digits string) (int, bool) {
	n, e := strconv.ParseUint(digits, 10, 40)
	return int(n), e == nil
}
