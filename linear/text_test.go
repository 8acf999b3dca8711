package linear

import (
	"strings"
	"testing"

	"familycheck/api"
)

// P1.14
func TestFormatRow(t *testing.T) {
	const m = api.MaxNumber
	last := wide(96)
	last.Coef[95] = -2
	for i, x := range []struct {
		r    api.Row
		text string
		e    api.Errno
	}{
		{row(-3, 2, -1, 0), "2*x0 - x1 - 3 >= 0", api.OK},
		{row(0), "0 >= 0", api.OK},
		{row(0, 0, 0), "0 >= 0", api.OK},
		{row(4), "4 >= 0", api.OK},
		{row(-4, 0, 0), "-4 >= 0", api.OK},
		{row(0, 1), "x0 >= 0", api.OK},
		{row(0, -1), "-x0 >= 0", api.OK},
		{row(0, -12), "-12*x0 >= 0", api.OK},
		{row(1, -1, 1), "-x0 + x1 + 1 >= 0", api.OK},
		{row(-1, 0, 0, 3), "3*x2 - 1 >= 0", api.OK},
		{row(-1, 0, 0, -3, 1), "-3*x2 + x3 - 1 >= 0", api.OK},
		{row(1, 1, -7), "x0 - 7*x1 + 1 >= 0", api.OK},
		{row(m, -m, m), "-68719476736*x0 + 68719476736*x1 + 68719476736 >= 0", api.OK},
		{row(0, 0, 0, 0, 0, 0, 0, 0, 0, 0, 0, 1), "x10 >= 0", api.OK},
		{wide(96), "0 >= 0", api.OK},
		{last, "-2*x95 >= 0", api.OK},
		{wide(97), "", api.ErrArg},
		{row(m + 1), "", api.ErrLarge},
		{row(-m - 1), "", api.ErrLarge},
		{row(0, 0, m+1), "", api.ErrLarge},
		{row(0, -m-1), "", api.ErrLarge},
		{row(0, minInt), "", api.ErrLarge},
		{api.Row{Coef: make([]int, 97), Const: m + 1}, "", api.ErrArg},
	} {
		text, e := FormatRow(x.r)
		if text != x.text || e != x.e {
			t.Errorf("%d: %q, error %d", i, text, e)
		}
		if x.e != api.OK {
			continue
		}
		if r, e := ParseRow(len(x.r.Coef), text); e != api.OK || !sameRow(r, x.r) {
			t.Errorf("%d: %q is read as %v, error %d", i, text, r, e)
		}
	}
}

// P1.14: a text that no row has.
func TestParseRowSyntax(t *testing.T) {
	for _, text := range []string{
		"", " ", ">= 0", " >= 0", "0", "x0", "x0 >=", "x0 >= ", "x0 >= 1", "x0 >= 00", "x0 > 0", "x0 <= 0", "x0>= 0", "x0 >=0", "x0 >= 0 ", " x0 >= 0", "x0 >= 0\n", "x0 >= 0\r\n", "x0  >= 0", "x0\t>= 0", "x0 >= 0 >= 0",
		"1*x0 >= 0", "-1*x0 >= 0", "0*x0 >= 0", "-0*x0 >= 0", "2x0 >= 0", "2*0 >= 0", "2 * x0 >= 0", "2*X0 >= 0", "x >= 0", "x00 >= 0", "x-0 >= 0", "x+0 >= 0", "x01 >= 0", "x0x1 >= 0", "xx0 >= 0", "*x0 >= 0", "2**x0 >= 0", "2*x >= 0", "x0*2 >= 0", "2*3*x0 >= 0",
		"x2 >= 0", "x99 >= 0", "x18446744073709551616 >= 0", "x9223372036854775808 >= 0", "x4294967296 >= 0", "x4294967295 >= 0", "x1099511627776 >= 0",
		"x1 + x0 >= 0", "x0 + x0 >= 0", "x0 - x0 >= 0", "1 + x0 >= 0", "x0 + 1 + 1 >= 0", "x0 + 1 + x1 >= 0", "1 + 2 >= 0",
		"-0 >= 0", "+1 >= 0", "+x0 >= 0", "- x0 >= 0", "--x0 >= 0", "x0 + 0 >= 0", "x0 - 0 >= 0", "x0 + -1 >= 0", "x0 - -1 >= 0", "x0 + +1 >= 0", "x0 + - 1 >= 0", "x0 +1 >= 0", "x0 + 1  >= 0", "x0  + 1 >= 0", "x0 +  1 >= 0", "x0 x1 >= 0", "x0 + >= 0", "x0 - >= 0", "+ x0 >= 0", "- >= 0", "x0 * x1 >= 0",
		"01 >= 0", "x0 + 01 >= 0", "02*x0 >= 0", "1_0 >= 0", "0x1 >= 0", "1e2 >= 0", "1.0 >= 0", "٣ >= 0", "½ >= 0",
		"68719476737 >= 0", "-68719476737 >= 0", "68719476737*x0 >= 0", "x0 - 68719476737 >= 0", "18446744073709551616 >= 0", "18446744073709551615 >= 0", "1152921504606846976000000000000 >= 0",
		"x0 >= 0\x00", "\xff >= 0", strings.Repeat(" ", api.MaxText),
	} {
		if r, e := ParseRow(2, text); e != api.ErrSyntax || !isZeroRow(r) {
			t.Errorf("%q: %v, error %d", text, r, e)
		}
	}
}

// P1.14: the order of the errors, and the limits.
func TestParseRowLimits(t *testing.T) {
	long := strings.Repeat("x", api.MaxText+1)
	for i, x := range []struct {
		vars int
		text string
		e    api.Errno
	}{
		{-1, "0 >= 0", api.ErrArg},
		{97, "0 >= 0", api.ErrArg},
		{minInt, long, api.ErrArg},
		{maxInt, long, api.ErrArg},
		{97, "nothing", api.ErrArg},
		{0, long, api.ErrLarge},
		{96, long, api.ErrLarge},
		{96, long[1:], api.ErrSyntax},
		{0, "0 >= 0", api.OK},
		{0, "x0 >= 0", api.ErrSyntax},
		{1, "x0 >= 0", api.OK},
		{1, "x1 >= 0", api.ErrSyntax},
		{96, "x95 >= 0", api.OK},
		{96, "x96 >= 0", api.ErrSyntax},
		{1, "-68719476736*x0 - 68719476736 >= 0", api.OK},
	} {
		r, e := ParseRow(x.vars, x.text)
		if e != x.e || e != api.OK && !isZeroRow(r) || e == api.OK && len(r.Coef) != x.vars {
			t.Errorf("%d: %v, error %d", i, r, e)
		}
	}
}

// P1.14, S6: the longest text of a row is read back.
func TestLongestText(t *testing.T) {
	r := wide(96)
	for v := range r.Coef {
		r.Coef[v] = -api.MaxNumber
	}
	r.Const = -api.MaxNumber
	text, e := FormatRow(r)
	if back, e2 := ParseRow(96, text); e != api.OK || e2 != api.OK || !sameRow(back, r) {
		t.Errorf("%q: errors %d, %d", text, e, e2)
	}
}

// P1.14, S6: ParseRow and FormatRow are inverse to each other, also for texts that are almost those of rows.
func TestTextsBothWays(t *testing.T) {
	var x numbers = 14
	const signs = "0123456789*x+- >=\n"
	read := 0
	for range 4000 {
		r := x.row(x.between(0, 4), []int{1, 2, 30, api.MaxNumber}[x.below(4)])
		text, e := FormatRow(r)
		if back, e2 := ParseRow(len(r.Coef), text); e != api.OK || e2 != api.OK || !sameRow(back, r) {
			t.Fatalf("%v: %q, %v, errors %d, %d", r, text, back, e, e2)
		}
		b := []byte(text)
		at := x.below(len(b))
		switch x.below(3) {
		case 0:
			b[at] = signs[x.below(len(signs))]
		case 1:
			b = append(b[:at], b[at+1:]...)
		case 2:
			b = append(b[:at+1], b[at:]...)
			b[at] = signs[x.below(len(signs))]
		}
		other, e := ParseRow(len(r.Coef), string(b))
		if e != api.OK {
			if e != api.ErrSyntax || !isZeroRow(other) {
				t.Fatalf("%q: %v, error %d", b, other, e)
			}
			continue
		}
		read++
		if again, _ := FormatRow(other); again != string(b) {
			t.Fatalf("%q is read as %v, which is %q", b, other, again)
		}
	}
	if read < 200 {
		t.Error("too few of the other texts are those of rows:", read)
	}
}
