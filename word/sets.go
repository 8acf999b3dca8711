package word

import (
	"iter"
	"math/bits"
)

// set is a set of numbers from 0 on, with a bit for each.
type set []uint64

// setWidth returns the length of a set of numbers below size.
func setWidth(size int) int { return (size + 63) / 64 }

func newSet(size int) set { return make(set, setWidth(size)) }

func (s set) add(i int) { s[i/64] |= 1 << (i % 64) }

func (s set) has(i int) bool { return s[i/64]>>(i%64)&1 == 1 }

func (s set) addAll(other set) {
	for i, x := range other {
		s[i] |= x
	}
}

// keep removes what is not in other.
func (s set) keep(other set) {
	for i, x := range other {
		s[i] &= x
	}
}

func (s set) meets(other set) bool {
	for i, x := range other {
		if s[i]&x != 0 {
			return true
		}
	}
	return false
}

func (s set) isEmpty() bool {
	for _, x := range s {
		if x != 0 {
			return false
		}
	}
	return true
}

// members goes over the numbers in ascending order.
func (s set) members() iter.Seq[int] {
	return func(yield func(int) bool) {
		for i, x := range s {
			for ; x != 0; x &= x - 1 {
				if !yield(64*i + bits.TrailingZeros64(x)) {
					return
				}
			}
		}
	}
}

// key returns the set as a value that can be the key of a map.
func (s set) key() string {
	text := make([]byte, 0, 8*len(s))
	for _, x := range s {
		for shift := 0; shift < 64; shift += 8 {
			text = append(text, byte(x>>shift))
		}
	}
	return string(text)
}

// setOf returns the set of a key.
func setOf(key string) set {
	s := make(set, len(key)/8)
	for i := range s {
		for j := range 8 {
			s[i] |= uint64(key[8*i+j]) << (8 * j)
		}
	}
	return s
}
