package cover

import (
	"familycheck/api"
)

// CheckRule reports whether no configuration outside the upward closure of basis leads into it by the rule.
func CheckRule(p api.Protocol, q api.Property, basis []api.Element, rule int) bool {
	if Check(p, q) != api.OK || !isRule(p, rule) {
		return false
	}
	for _, e := range basis {
		list, errno := PreRule(p, rule, e)
		if errno != api.OK || !containsAll(basis, list) {
			return false
		}
	}
	return true
}

// CheckBasis reports whether basis shows that the property holds for all sizes: see P5.12.
func CheckBasis(p api.Protocol, q api.Property, basis []api.Element) bool {
	bad, errno := BadElements(p, q)
	if errno != api.OK || len(basis) > api.MaxBasis {
		return false
	}
	for _, e := range basis {
		initial, errno := Initial(p, q, e)
		if errno != api.OK || initial {
			return false
		}
	}
	for rule := range p.Rules {
		if !CheckRule(p, q, basis, rule) {
			return false
		}
	}
	return containsAll(basis, bad)
}
