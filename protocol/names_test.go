package protocol

import (
	"strings"
	"testing"

	"familycheck/api"
)

const reservedWords = "protocol topology states messages values faults resilience initial leader rule local pair broadcast neighbor pass when exists forall read write send all at first last left right parent child property never eventually start count adjacent goal clique line ring tree crash omission arbitrary"

// P2.1
func TestValidName(t *testing.T) {
	for s, want := range map[string]bool{
		"a": true, "z": true, "a0": true, "a9": true, "a_": true, "z_9_a": true, "n": true, "none": true,
		"abcdefghijkl": true, "a___________": true, "abcdefghijklm": false, strings.Repeat("a", 1<<20): false,
		"": false, "_": false, "_a": false, "0": false, "9a": false,
		"A": false, "aB": false, "a-b": false, "a b": false, " a": false, "a ": false, "a\n": false, "a\x00": false, "a*": false, "a.": false, "`": false, "{": false, "a`": false, "a{": false, "a@": false, "a[": false, "a/": false, "a:": false, "a^": false,
		"é": false, "aé": false, "\xff": false, "a\xff": false, "a\ufffd": false, "a\u0430": false, "a\u0661": false,
		"proto": true, "rules": true, "rul": true, "arule": true, "broadcasts": true, "resilience_": true,
	} {
		if got := ValidName(s); got != want {
			t.Errorf("%.20q: %v", s, got)
		}
	}
}

// P2.1: the reserved words, and words that are one byte longer or shorter.
func TestReservedWords(t *testing.T) {
	words := strings.Fields(reservedWords)
	if len(words) != 43 {
		t.Fatal(len(words))
	}
	reserved := map[string]bool{}
	for _, w := range words {
		reserved[w] = true
	}
	for w := range reserved {
		for _, s := range []string{w, w + "s", w + "_", w[:len(w)-1], w[1:]} {
			want := !reserved[s] && len(s) >= 1 && len(s) <= api.MaxName
			if got := ValidName(s); got != want {
				t.Errorf("%q: %v", s, got)
			}
		}
	}
}

// P2.1: each single byte, alone and behind a letter.
func TestBytesOfNames(t *testing.T) {
	for c := range 256 {
		b := byte(c)
		letter := b >= 'a' && b <= 'z'
		if got := ValidName(string([]byte{b})); got != letter {
			t.Errorf("byte %d: %v", c, got)
		}
		if got := ValidName(string([]byte{'x', b})); got != (letter || b >= '0' && b <= '9' || b == '_') {
			t.Errorf("x and byte %d: %v", c, got)
		}
	}
}
