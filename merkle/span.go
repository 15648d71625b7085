package merkle

import "math/bits"

// span is a part of a tree: n entries, the first of them at from. Parts are found by halving the whole alone, so one with a power of 2 of entries begins at a multiple of it.
type span struct{ from, n int }

// halves tells the first k(n) entries, and the others; there are at least two.
func (s span) halves() (first, others span) {
	k := 1 << (bits.Len(uint(s.n-1)) - 1)
	return span{s.from, k}, span{s.from + k, s.n - k}
}

// liesBefore tells whether a part of two halves lies in the first one, not in the others.
func (s span) liesBefore(others span) bool { return s.from < others.from }

// depth tells how many halvings lead down to a part.
func (s span) depth(target span) int {
	if s == target {
		return 0
	}
	first, others := s.halves()
	if target.liesBefore(others) {
		return 1 + first.depth(target)
	}
	return 1 + others.depth(target)
}

// end tells the part where SUB ends on its way down: the greatest one that ends with the first m entries. SUB is whole there just if it begins with the first entry, for SUB is no longer whole once it has gone to the others.
func (s span) end(m int) span {
	if m == s.from+s.n {
		return s
	}
	first, others := s.halves()
	if m <= others.from {
		return first.end(m)
	}
	return others.end(m)
}
