package protocol

import "familycheck/api"

// ValidName reports whether s may be the name of a family, a property, a rule, a state, a message or a value.
func ValidName(s string) bool {
	if len(s) < 1 || len(s) > api.MaxName || isReserved(s) {
		return false
	}
	for i, c := range s {
		letter := c >= 'a' && c <= 'z'
		later := c >= '0' && c <= '9' || c == '_'
		if !letter && (i == 0 || !later) {
			return false
		}
	}
	return true
}

// isReserved reports whether s is a literal word of the texts. No name is one, so a list of names ends where a literal word follows.
func isReserved(s string) bool {
	switch s {
	case "protocol", "topology", "states", "messages", "values", "faults", "resilience", "initial", "leader", "rule",
		"local", "pair", "broadcast", "neighbor", "pass",
		"when", "exists", "forall", "read", "write", "send", "all", "at", "first", "last", "left", "right", "parent", "child",
		"property", "never", "eventually", "start", "count", "adjacent", "goal",
		"clique", "line", "ring", "tree", "crash", "omission", "arbitrary":
		return true
	}
	return false
}
