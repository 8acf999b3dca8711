package protocol

import (
	"strconv"
	"strings"
	"testing"

	"familycheck/api"
)

// P2.12
func TestFormatLinear(t *testing.T) {
	for l, want := range map[api.Linear]string{
		{}:                                   "0",
		{C: 1}:                               "1",
		{C: -1}:                              "-1",
		{C: 100}:                             "100",
		{C: -100}:                            "-100",
		{N: 1}:                               "n",
		{N: -1}:                              "-n",
		{T: 1}:                               "t",
		{T: -1}:                              "-t",
		{F: 1}:                               "f",
		{F: -1}:                              "-f",
		{N: 2}:                               "2*n",
		{N: -2}:                              "-2*n",
		{T: 100}:                             "100*t",
		{F: -100}:                            "-100*f",
		{C: -1, N: 1, T: -3}:                 "n-3*t-1",
		{C: 1, N: 1, T: 1, F: 1}:             "n+t+f+1",
		{C: -1, N: -1, T: -1, F: -1}:         "-n-t-f-1",
		{C: 10, N: 11, T: 12, F: 13}:         "11*n+12*t+13*f+10",
		{C: -10, N: -11, T: -12, F: -13}:     "-11*n-12*t-13*f-10",
		{T: 1, F: -1}:                        "t-f",
		{T: -1, F: 1}:                        "-t+f",
		{F: 2, C: 1}:                         "2*f+1",
		{N: 1, F: 5}:                         "n+5*f",
		{C: 100, N: -100, T: 100, F: -100}:   "-100*n+100*t-100*f+100",
		{C: 101}:                             "",
		{C: -101, N: 1}:                      "",
		{N: 101}:                             "",
		{N: -101}:                            "",
		{T: 101}:                             "",
		{T: -101}:                            "",
		{F: 101}:                             "",
		{F: -101}:                            "",
		{C: minInt}:                          "",
		{N: maxInt}:                          "",
		{C: 101, N: 101, T: -101, F: minInt}: "",
	} {
		if got := FormatLinear(l); got != want {
			t.Errorf("%v: %q, not %q", l, got, want)
		}
	}
}

// P2.13, P2.14, S6
func TestFormatAndParse(t *testing.T) {
	for text, p := range samples() {
		before := deepCopy(p)
		if got, e := Format(p); e != api.OK || got != text || !same(p, before) {
			t.Errorf("%q, error %d, not %q", got, e, text)
		}
		if got, e := Parse(text); e != api.OK || !same(got, p) || !apart(got) {
			t.Errorf("%.12q: %+v, error %d", text, got, e)
		}
	}
	for e, p := range invalid() {
		if text, got := Format(p); got != e || text != "" {
			t.Errorf("%q, error %d, not %d", text, got, e)
		}
	}
}

// P2.13, P2.14: each topology, kind of faults, position and direction.
func TestWordsOfTexts(t *testing.T) {
	for topology, word := range map[int]string{api.Clique: "clique", api.Line: "line", api.Ring: "ring", api.Tree: "tree"} {
		bothWays(t, api.Protocol{Name: "p", Topology: topology, States: []string{"s"}, Initial: []int{0}}, "protocol p\ntopology "+word+"\nstates s\ninitial s\n")
	}
	for fault, line := range map[int]string{api.NoFault: "", api.Crash: "faults crash\n", api.Omission: "faults omission\n", api.Arbitrary: "faults arbitrary\n"} {
		bothWays(t, api.Protocol{Name: "p", Topology: api.Clique, States: []string{"s"}, Fault: fault, Initial: []int{0}}, "protocol p\ntopology clique\nstates s\n"+line+"initial s\n")
	}
	for at, word := range map[int]string{api.AtAny: "", api.AtFirst: " at first", api.AtLast: " at last"} {
		r := api.Rule{Name: "r", Kind: api.Neighbor, Read: -1, Write: -1, At: at}
		bothWays(t, api.Protocol{Name: "p", Topology: api.Line, States: []string{"s"}, Initial: []int{0}, Rules: []api.Rule{r}}, "protocol p\ntopology line\nstates s\ninitial s\nrule r neighbor s s"+word+"\n")
	}
	for direction, word := range map[int]string{api.ToRight: "ring right", api.ToLeft: "ring left", api.ToChild: "tree child", api.ToParent: "tree parent"} {
		topology, way, _ := strings.Cut(word, " ")
		r := api.Rule{Name: "r", Kind: api.Pass, Read: -1, Write: -1, Direction: direction}
		p := api.Protocol{Name: "p", Topology: map[string]int{"ring": api.Ring, "tree": api.Tree}[topology], States: []string{"s"}, Initial: []int{0}, Rules: []api.Rule{r}}
		bothWays(t, p, "protocol p\ntopology "+topology+"\nstates s\ninitial s\nrule r pass s s s s "+way+"\n")
	}
}

func bothWays(t *testing.T, p api.Protocol, text string) {
	t.Helper()
	if got, e := Format(p); e != api.OK || got != text {
		t.Errorf("%q, error %d, not %q", got, e, text)
	}
	if got, e := Parse(text); e != api.OK || !same(got, p) {
		t.Errorf("%q: %+v, error %d", text, got, e)
	}
}

// P2.14: names that look like parts of other things.
func TestNamesInTexts(t *testing.T) {
	p := api.Protocol{
		Name: "r", Topology: api.Clique, States: []string{"n", "t", "f"}, Messages: []string{"c", "m1"}, Values: []string{"v", "forall_"}, Initial: []int{0},
		Rules: []api.Rule{{Name: "n", Kind: api.Local, To: 2, Guards: []api.Threshold{{Message: 1, Coef: 10, Bound: api.Linear{N: -1, T: 1}}}, Forall: []int{1}, Read: 1, Write: -1, Send: []int{0, 1}}},
	}
	bothWays(t, p, "protocol r\ntopology clique\nstates n t f\nmessages c m1\nvalues v forall_\ninitial n\nrule n local n f when 10*m1 >= -n+t forall t read forall_ send c m1\n")
}

// P2.14: texts that no family has.
func TestParseSyntax(t *testing.T) {
	wrong := func(text string) {
		t.Helper()
		if p, e := Parse(text); e != api.ErrSyntax || !isZero(p) {
			t.Errorf("%q: %+v, error %d", text, p, e)
		}
	}
	for _, text := range []string{"", "\n", " ", "protocol", "protocol ", "protocol st", "protocol st\n", "protocol st\ntopology", "protocol st\ntopology clique\nstates", "protocol st\ntopology clique\nstates a\ninitial", "\x00", "\xff\n", "property q never count 1 a", strings.Repeat("\n", api.MaxText), strings.Repeat("a ", api.MaxText/2)} {
		wrong(text)
	}
	for text := range samples() {
		for i := range len(text) {
			if text[i] != '\n' {
				wrong(text[:i+1])
			}
			wrong(text[:i] + " " + text[i:])
			wrong(text[:i] + "\n" + text[i:])
			wrong(text[:i] + "\r" + text[i:])
			wrong(text[:i] + "A" + text[i+1:])
			if text[i] == ' ' {
				wrong(text[:i] + "\t" + text[i+1:])
				wrong(text[:i] + "\n" + text[i+1:])
			}
			if text[i] == '\n' {
				wrong(text[:i] + " " + text[i+1:])
			}
		}
		wrong(text + " ")
		wrong(text + "\n")
		wrong(text + text)
		wrong(text + "rule")
		wrong(text + "end\n")
	}
}

// P2.14: parts of a text in another form.
func TestParseOtherForms(t *testing.T) {
	for _, x := range []struct{ text, old, with string }{
		{stText, "n-3*t-1", "-1+n-3*t"}, {stText, "n-3*t-1", "-3*t+n-1"}, {stText, "n-3*t-1", "+n-3*t-1"}, {stText, "n-3*t-1", "n-03*t-1"}, {stText, "n-3*t-1", "n-3*t-01"}, {stText, "n-3*t-1", "n-3t-1"}, {stText, "n-3*t-1", "n-t*3-1"}, {stText, "n-3*t-1", "1*n-3*t-1"}, {stText, "n-3*t-1", "n+-3*t-1"}, {stText, "n-3*t-1", "n--3*t-1"},
		{stText, "n-3*t-1", "n+n-3*t-1"}, {stText, "n-3*t-1", "n-3*t-1-1"}, {stText, "n-3*t-1", "n-3*t-1+0"}, {stText, "n-3*t-1", "n-3*t-1+0*f"}, {stText, "n-3*t-1", "n-3*t-1-"}, {stText, "n-3*t-1", "n-3*t-1+"}, {stText, "n-3*t-1", "n - 3*t - 1"}, {stText, "n-3*t-1", "n-101*t-1"}, {stText, "n-3*t-1", "n-3*t-101"}, {stText, "n-3*t-1", "n-3*t-99999999999999999999"}, {stText, "n-3*t-1", "nn-3*t-1"}, {stText, "n-3*t-1", "nt"}, {stText, "n-3*t-1", "*n"}, {stText, "n-3*t-1", "-*n"}, {stText, "n-3*t-1", "2**n"}, {stText, "n-3*t-1", "x"}, {stText, "n-3*t-1", "-"}, {stText, "n-3*t-1", "+"}, {stText, "n-3*t-1", "-0"}, {stText, "n-3*t-1", "00"}, {stText, "n-3*t-1", "1_0"}, {stText, "n-3*t-1", "0x1"}, {stText, "resilience n-3*t-1\n", "resilience \n"}, {stText, "resilience n-3*t-1\n", "resilience\n"}, {stText, "resilience n-3*t-1\n", "resilience n-3*t-1 t-f\n"},
		{stText, "1*echo", "echo"}, {stText, "1*echo", "01*echo"}, {stText, "1*echo", "+1*echo"}, {stText, "1*echo", "0*echo"}, {stText, "1*echo", "-1*echo"}, {stText, "1*echo", "101*echo"}, {stText, "1*echo", "1*eco"}, {stText, "1*echo", "1*"}, {stText, "1*echo", "*echo"}, {stText, "1*echo", "1*echo*1"}, {stText, "1*echo", "1 * echo"}, {stText, "1*echo", "1*v0"}, {stText, "1*echo", "x*echo"},
		{stText, ">=", ">"}, {stText, ">=", "<="}, {stText, " >= ", ">="}, {stText, ">= t+1", ">="}, {stText, "when 1*echo >= t+1 send", "when send"}, {stText, " when 1*echo >= t+1 send echo", " send echo when 1*echo >= t+1"},
		{stText, "protocol st", "protocol St"}, {stText, "protocol st", "protocol rule"}, {stText, "protocol st", "protocol st st"}, {stText, "protocol st\n", ""}, {stText, "protocol st", "protocol abcdefghijklm"},
		{stText, "clique", "line"}, {stText, "clique", "cliques"}, {stText, "clique", "Clique"}, {stText, "topology clique\n", ""}, {stText, "topology clique", "topology "}, {stText, "topology clique\nstates v0 v1 se ac\n", "states v0 v1 se ac\ntopology clique\n"},
		{stText, "states v0 v1 se ac", "states v1 v0 ac se ac"}, {stText, "states v0 v1 se ac", "states v0 v1 se"}, {stText, "states v0 v1 se ac", "states v0 v1 se ac a b c"}, {stText, "states v0 v1 se ac", "states v0 v1 se ac send"}, {stText, "states v0 v1 se ac\n", ""}, {stText, "states v0", "states echo"},
		{stText, "messages echo\n", "messages\n"}, {stText, "messages echo\n", ""}, {stText, "messages echo", "messages echo echo"}, {stText, "messages echo", "messages echo b c d"}, {stText, "messages echo", "values echo"}, {stText, "messages echo\n", "messages echo\nmessages b\n"}, {stText, "messages echo\n", "values x\nmessages echo\n"}, {stText, "messages echo\nfaults arbitrary\n", "faults arbitrary\nmessages echo\n"},
		{stText, "arbitrary", "none"}, {stText, "arbitrary", ""}, {stText, "faults arbitrary", "faults"}, {stText, "arbitrary", "crash omission"}, {stText, "arbitrary", "Byzantine"},
		{stText, "resilience t-f\ninitial v0 v1\n", "initial v0 v1\nresilience t-f\n"}, {stText, "initial v0 v1\n", ""}, {stText, "initial v0 v1", "initial"}, {stText, "initial v0 v1", "initial v1 v0"}, {stText, "initial v0 v1", "initial v0 v0"}, {stText, "initial v0 v1", "initial v0 v2"}, {stText, "initial v0 v1\n", "initial v0 v1\nleader v0\n"}, {stText, "initial v0 v1\n", "initial v0 v1\nleader\n"},
		{stText, "rule r1", "rule r2"}, {stText, "rule r1", "rule R1"}, {stText, "rule r1 local", "rule local"}, {stText, "rule r1 local", "rule r1 lokal"}, {stText, "rule r1 local", "rule r1"}, {stText, "rule r1 local", "rule r1 pass"}, {stText, "local v1 se", "local v1"}, {stText, "local v1 se", "local v1 s2"}, {stText, "local v1 se", "local v1 se ac"}, {stText, "send echo", "send"}, {stText, "send echo", "send echo echo"}, {stText, "send echo", "send v0"}, {stText, "send echo", "send echo at first"}, {stText, "v1 se send echo", "v1 se send echo read"},
		{fullText, "two pair c d a b", "two pair c d a"}, {fullText, "two pair c d a b", "two pair c d"}, {fullText, "two pair c d a b", "two pair c d a b a"}, {fullText, "pair c d a b read x write y", "pair c d a b write y read x"}, {fullText, "pair c d a b read x", "pair c d a b read x y"}, {fullText, "pair c d a b read x", "pair c d a b read"}, {fullText, "pair c d a b read x", "pair c d a b read x read x"}, {fullText, "pair c d a b read x", "pair c d a b send m0"}, {fullText, "pair c d a b read x", "pair c d read x"},
		{fullText, "all a a b d", "all a a b"}, {fullText, "all a a b d", "all a a b d d"}, {fullText, "all a a b d", "all"}, {fullText, " all a a b d", ""}, {fullText, "all a a b d read y", "read y all a a b d"},
		{fullText, "exists b d forall a b c", "forall a b c exists b d"}, {fullText, "exists b d", "exists d b"}, {fullText, "exists b d", "exists"}, {fullText, "exists b d", "exists b exists d"}, {fullText, "read y write x send", "write x read y send"}, {fullText, "read y", "read z"}, {fullText, "read y", "read -1"}, {fullText, "when 1*m0 >= 0", "when 1*m0 >= 0 when 1*m1 >= 0"}, {fullText, "when 1*m0 >= 0", "when 1*m0 >= "},
		{tokText, "right", "left right"}, {tokText, " right", ""}, {tokText, "right", "child"}, {tokText, "right", "parent"}, {tokText, "right", "up"}, {tokText, "right", "right read"}, {tokText, "leader tk", "leader"}, {tokText, "leader tk", "leader no tk"}, {tokText, "initial no\nleader tk\n", "leader tk\ninitial no\n"}, {tokText, "states tk no\n", "states tk no\nfaults crash\n"}, {tokText, "states tk no\n", "states tk no\nvalues v\n"}, {tokText, "states tk no\n", "states tk no\nresilience 0\n"}, {tokText, "go pass tk no no tk", "go pass tk no no"},
		{rowText, "at first", "at"}, {rowText, "at first", "at any"}, {rowText, "at first", "first"}, {rowText, "at first right a c", "right a c at first"}, {rowText, "at first right a c", "at first right c a"}, {rowText, "at last left a b c", "at last left"}, {rowText, "at last left a b c", "at last left a b c parent a"}, {rowText, "line", "ring"}, {rowText, "rule r3 neighbor c c", "rule r3 neighbor c c read"}, {rowText, "rule r1 neighbor a b", "rule r1 neighbor a"},
		{oakText, "left a b right b parent a", "right b left a b parent a"}, {oakText, "left a b right b parent a", "left a b parent a right b"}, {oakText, "parent a b", "parent"}, {oakText, "tree", "line"},
	} {
		text := replaced(t, x.text, x.old, x.with)
		if p, e := Parse(text); e != api.ErrSyntax || !isZero(p) {
			t.Errorf("%q for %q: %+v, error %d", x.with, x.old, p, e)
		}
	}
}

// P2.14: parts of a text that may be left out or be others.
func TestParseOtherFamilies(t *testing.T) {
	for _, x := range []struct{ text, old, with string }{
		{stText, "faults arbitrary\n", ""}, {stText, "arbitrary", "crash"}, {stText, "resilience t-f\n", ""}, {stText, "resilience t-f\n", "resilience 0\nresilience t-f\nresilience -100*f\n"}, {stText, "initial v0 v1", "initial ac"},
		{stText, " send echo", ""}, {stText, ">= t+1", ">= -5"}, {stText, "1*echo", "100*echo"}, {stText, "local v1 se", "local v1 v1"}, {stText, "protocol st", "protocol abcdefghijkl"}, {stText, "rule r3 local se ac when 1*echo >= n-t\n", ""},
		{fullText, "values x y", "values x y z"}, {fullText, " exists b d", ""}, {fullText, " forall a b c", ""}, {fullText, " read y", ""}, {fullText, " write x", ""}, {fullText, " when 2*m1 >= 3*n-t", ""}, {fullText, "all a a b d", "all d d d d"},
		{tokText, "leader tk\n", ""}, {tokText, "right", "left"}, {tokText, "ring", "line"},
		{oakText, " at last", ""}, {oakText, " parent a", ""}, {oakText, "b a parent\n", "b a child\n"},
	} {
		text := replaced(t, x.text, x.old, x.with)
		p, e := Parse(text)
		if e != api.OK || same(p, samples()[x.text]) {
			t.Errorf("%q for %q: %+v, error %d", x.with, x.old, p, e)
		}
		if again, e := Format(p); e != api.OK || again != text {
			t.Errorf("%q, error %d, not %q", again, e, text)
		}
	}
}

// longest returns a family with one of the longest texts.
func longest() api.Protocol {
	names := func(letter string, count int) []string {
		var list []string
		for i := range count {
			list = append(list, strings.Repeat(letter, api.MaxName-1)+strconv.Itoa(i))
		}
		return list
	}
	all := []int{0, 1, 2, 3, 4, 5}
	wide := api.Linear{C: -100, N: -100, T: -100, F: -100}
	p := api.Protocol{
		Name: "abcdefghijkl", Topology: api.Clique, States: names("s", 6), Messages: names("m", 3), Values: names("v", 3), Fault: api.Arbitrary,
		Resilience: []api.Linear{wide, wide, wide, wide}, Initial: all,
	}
	for _, name := range names("r", api.MaxRules) {
		p.Rules = append(p.Rules, api.Rule{Name: name, Kind: api.Local, Guards: []api.Threshold{{Coef: 100, Bound: wide}, {Message: 2, Coef: 100, Bound: wide}}, Exists: all, Forall: all, Send: []int{0, 1, 2}})
	}
	return deepCopy(p)
}

// P2.14: the order of the errors, and the longest text.
func TestParseLimits(t *testing.T) {
	text, e := Format(longest())
	if e != api.OK || len(text) < 3000 || len(text) > api.MaxText {
		t.Fatalf("%d bytes, error %d", len(text), e)
	}
	bothWays(t, longest(), text)
	for i, x := range []struct {
		text string
		e    api.Errno
	}{
		{text + strings.Repeat("\n", api.MaxText-len(text)), api.ErrSyntax},
		{text + strings.Repeat("\n", api.MaxText-len(text)+1), api.ErrLarge},
		{strings.Repeat("a", api.MaxText), api.ErrSyntax},
		{strings.Repeat("a", api.MaxText+1), api.ErrLarge},
		{strings.Repeat("protocol p\n", 1<<16), api.ErrLarge},
	} {
		if p, e := Parse(x.text); e != x.e || !isZero(p) {
			t.Errorf("%d: %+v, error %d", i, p, e)
		}
	}
}

// alter changes one byte or word of a text.
func (x source) alter(text string) string {
	if x.IntN(2) == 0 {
		const bytes = "0123456789*+-nft >=\nabz_"
		b := []byte(text)
		at := x.IntN(len(b))
		switch x.IntN(3) {
		case 0:
			b[at] = bytes[x.IntN(len(bytes))]
		case 1:
			b = append(b[:at], b[at+1:]...)
		case 2:
			b = append(b[:at+1], b[at:]...)
			b[at] = bytes[x.IntN(len(bytes))]
		}
		return string(b)
	}
	words := strings.SplitAfter(text, " ")
	i, k := x.IntN(len(words)), x.IntN(len(words))
	switch x.IntN(4) {
	case 0:
		words[i] = words[k]
	case 1:
		words[i] = ""
	case 2:
		words[i] += words[k]
	case 3:
		words[i], words[k] = words[k], words[i]
	}
	return strings.Join(words, "")
}

// S6: Parse and Format are inverse to each other, also for texts that are almost those of families.
func TestFamilyTextsBothWays(t *testing.T) {
	x := newSource(5)
	read := 0
	for range 4000 {
		p := x.family()
		text, e := Format(p)
		if e != api.OK {
			t.Fatalf("%+v: error %d", p, e)
		}
		if back, e := Parse(text); e != api.OK || !same(back, p) || !apart(back) {
			t.Fatalf("%q is read as %+v, error %d", text, back, e)
		}
		for range 5 {
			altered := x.alter(text)
			other, e := Parse(altered)
			if e != api.OK {
				if e != api.ErrSyntax || !isZero(other) {
					t.Fatalf("%q: %+v, error %d", altered, other, e)
				}
				continue
			}
			read++
			if again, e := Format(other); e != api.OK || again != altered {
				t.Fatalf("%q is read as %+v, which is %q", altered, other, again)
			}
		}
	}
	if read < 1000 {
		t.Error("few of the altered texts are those of families:", read)
	}
}

// P2.15
func TestFormatAndParseProperty(t *testing.T) {
	for i, x := range []struct {
		p    api.Protocol
		q    api.Property
		text string
	}{
		{st(), api.Property{Name: "unf", Kind: api.Never, Start: []int{0}, Bad: []api.Count{{States: []int{3}, Least: 1}}}, "property unf never start v0 count 1 ac"},
		{st(), api.Property{Name: "cor", Kind: api.Eventually, Start: []int{1}, Goal: []int{3}}, "property cor eventually start v1 goal ac"},
		{st(), api.Property{Name: "st", Kind: api.Eventually, Start: []int{0, 1}, Goal: []int{0, 1, 2, 3}}, "property st eventually start v0 v1 goal v0 v1 se ac"},
		{mx(), api.Property{Name: "ex", Kind: api.Never, Bad: []api.Count{{States: []int{2}, Least: 2}}}, "property ex never count 2 c"},
		{mx(), api.Property{Name: "ex", Kind: api.Eventually, Goal: []int{0}}, "property ex eventually goal i"},
		{mx(), api.Property{Name: "c", Kind: api.Never, Bad: []api.Count{{States: []int{0, 1, 2}, Least: 3}, {States: []int{0}, Least: 1}, {States: []int{0}, Least: 1}}}, "property c never count 3 i w c count 1 i count 1 i"},
		{tok(), api.Property{Name: "two", Kind: api.Never, Adjacent: []int{0, 0}}, "property two never adjacent tk tk"},
		{tok(), api.Property{Name: "two", Kind: api.Never, Start: []int{1}, Bad: []api.Count{{States: []int{0, 1}, Least: 2}}, Adjacent: []int{1, 0}}, "property two never start no count 2 tk no adjacent no tk"},
		{oak(), api.Property{Name: "two", Kind: api.Never, Adjacent: []int{0, 1}}, "property two never adjacent a b"},
	} {
		before, family := deepCopy(x.q), deepCopy(x.p)
		if got, e := FormatProperty(x.p, x.q); e != api.OK || got != x.text || !same(x.q, before) {
			t.Errorf("%d: %q, error %d", i, got, e)
		}
		if got, e := ParseProperty(x.p, x.text); e != api.OK || !same(got, x.q) || !apart(got, x.p) || !same(x.p, family) {
			t.Errorf("%d: %+v, error %d", i, got, e)
		}
	}
}

// P2.15: texts that no property has.
func TestParsePropertySyntax(t *testing.T) {
	const text = "property p never start v0 v1 count 2 se ac count 1 v0"
	wrong := func(p api.Protocol, text string) {
		t.Helper()
		if q, e := ParseProperty(p, text); e != api.ErrSyntax || !isZero(q) {
			t.Errorf("%q: %+v, error %d", text, q, e)
		}
	}
	if _, e := ParseProperty(st(), text); e != api.OK {
		t.Fatal(e)
	}
	for i := range len(text) {
		if end := text[:i]; !strings.HasSuffix(end, " se") && !strings.HasSuffix(end, " ac") {
			wrong(st(), end)
		}
		wrong(st(), text[:i]+" "+text[i:])
		wrong(st(), text[:i]+"\n"+text[i:])
		wrong(st(), text[:i]+"A"+text[i+1:])
		if text[i] == ' ' {
			wrong(st(), text[:i]+"\n"+text[i+1:])
		}
	}
	for _, s := range []string{
		text + " ", text + "\n", text + "\n" + text, text + " " + text, " " + text, "\n" + text,
		"property", "property p", "property p never", "property p eventually", "property p always count 1 ac", "property Never never count 1 ac", "property never never count 1 ac", "property abcdefghijklm never count 1 ac", "propertY p never count 1 ac",
		"property p never count", "property p never count 1", "property p never count ac", "property p never count 0 ac", "property p never count 4 ac", "property p never count 01 ac", "property p never count +1 ac", "property p never count -1 ac", "property p never count 1 ac se", "property p never count 1 ac ac", "property p never count 1 xx", "property p never count 99999999999999999999 ac", "property p never count 1 1 ac",
		"property p never count 1 ac count 1 ac count 1 ac count 1 ac", "property p never count 1 ac start v0", "property p never start count 1 ac", "property p never start v1 v0 count 1 ac", "property p never start se count 1 ac", "property p never start v0 start v1 count 1 ac", "property p never start v0",
		"property p never goal ac", "property p never count 1 ac goal ac", "property p never adjacent v0 v1", "property p never count 1 ac adjacent v0 v1", "property p never count 1 ac adjacent",
		"property p eventually goal", "property p eventually start v0", "property p eventually goal ac se", "property p eventually goal ac start v0", "property p eventually goal ac goal ac", "property p eventually count 1 ac", "property p eventually count 1 ac goal ac", "property p eventually goal ac adjacent v0 v1",
	} {
		wrong(st(), s)
	}
	for _, s := range []string{"property p never adjacent", "property p never adjacent tk", "property p never adjacent tk no tk", "property p never adjacent tk xx", "property p never adjacent tk tk count 1 tk", "property p never adjacent tk no adjacent no tk", "property p never adjacent 0 1"} {
		wrong(tok(), s)
	}
}

// P2.15: the order of the errors.
func TestPropertyTextErrors(t *testing.T) {
	long := strings.Repeat("a", api.MaxText+1)
	for e, p := range invalid() {
		if q, got := ParseProperty(p, long); got != e || !isZero(q) {
			t.Errorf("%+v, error %d, not %d", q, got, e)
		}
		if text, got := FormatProperty(p, api.Property{}); got != e || text != "" {
			t.Errorf("%q, error %d, not %d", text, got, e)
		}
	}
	if q, e := ParseProperty(st(), long); e != api.ErrLarge || !isZero(q) {
		t.Errorf("%+v, error %d", q, e)
	}
	if q, e := ParseProperty(st(), long[1:]); e != api.ErrSyntax || !isZero(q) {
		t.Errorf("%+v, error %d", q, e)
	}
	adjacent := api.Property{Name: "q", Kind: api.Never, Adjacent: []int{0, 1}}
	if text, e := FormatProperty(st(), adjacent); e != api.ErrRule || text != "" {
		t.Errorf("%q, error %d", text, e)
	}
	if text, e := FormatProperty(st(), api.Property{}); e != api.ErrName || text != "" {
		t.Errorf("%q, error %d", text, e)
	}
}

// S6: ParseProperty and FormatProperty are inverse to each other, also for texts that are almost those of properties.
func TestPropertyTextsBothWays(t *testing.T) {
	x := newSource(6)
	read := 0
	for range 4000 {
		p := x.family()
		q := x.property(p)
		text, e := FormatProperty(p, q)
		if e != api.OK {
			t.Fatalf("%+v: error %d", q, e)
		}
		if back, e := ParseProperty(p, text); e != api.OK || !same(back, q) || !apart(back, p) {
			t.Fatalf("%q is read as %+v, error %d", text, back, e)
		}
		for range 5 {
			altered := x.alter(text)
			other, e := ParseProperty(p, altered)
			if e != api.OK {
				if e != api.ErrSyntax || !isZero(other) {
					t.Fatalf("%q: %+v, error %d", altered, other, e)
				}
				continue
			}
			read++
			if again, e := FormatProperty(p, other); e != api.OK || again != altered {
				t.Fatalf("%q is read as %+v, which is %q", altered, other, again)
			}
		}
	}
	if read < 1000 {
		t.Error("few of the altered texts are those of properties:", read)
	}
}
