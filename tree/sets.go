package tree

import (
	"iter"
	"math/bits"

	"familycheck/api"
)

// setSize is the number of states of the largest networks: those of the steps with all rules.
const setSize = api.MaxForward * (api.MaxStates + api.MaxRules + 1)

// set is a set of numbers below setSize, with a bit for each.
type set [(setSize + 63) / 64]uint64

func setOf(list ...int) set {
	var s set
	for _, i := range list {
		s[i/64] |= 1 << (i % 64)
	}
	return s
}

func (s set) has(i int) bool { return s[i/64]>>(i%64)&1 == 1 }

func (s set) with(other set) set {
	for i, x := range other {
		s[i] |= x
	}
	return s
}

func (s set) without(other set) set {
	for i, x := range other {
		s[i] &^= x
	}
	return s
}

func (s set) meets(other set) bool {
	for i, x := range other {
		if s[i]&x != 0 {
			return true
		}
	}
	return false
}

// members goes over the numbers in ascending order.
func (s set) members() iter.Seq[int] {
	return func(yield func(int) bool) {
		for i, x := range s {
			for ; x != 0; x &= x - 1 {
				if !yield(64*i + bits.TrailingZeros64(x)) {
					return
				}
			}
		}
	}
}
