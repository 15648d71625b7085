package merkle

// claim is what somebody says of a part of a tree: its root, and the roots of the halves that are left aside on the way to it, from its side on.
type claim struct {
	w      int
	target span
	root   []byte
	beside [][]byte
}

// ofEntry tells what a path says.
func ofEntry(w int, leaf []byte, i int, path [][]byte) claim {
	return claim{w, span{i, 1}, leaf, path}
}

// ofProof tells what a proof from m, above 0, to n says of the part where SUB ends; false, if it has not even that part's root.
func ofProof(w, m, n int, old []byte, proof [][]byte) (claim, bool) {
	end := span{0, n}.end(m)
	if end.from == 0 {
		return claim{w, end, old, proof}, true
	}
	if len(proof) == 0 {
		return claim{}, false
	}
	return claim{w, end, proof[0], proof[1:]}, true
}

// fits tells whether there are as many hashes as there are halvings from s down to the part.
func (c claim) fits(s span) bool { return len(c.beside) == s.depth(c.target) }

// top tells the root of s, as it comes out of the claim.
func (c claim) top(s span) []byte {
	if s == c.target {
		return c.root
	}
	left, right := c.sides(s)
	return Node(c.w, left, right)
}

// sides tells the roots of both halves of s, as they come out of the claim.
func (c claim) sides(s span) (left, right []byte) {
	first, others := s.halves()
	inner, aside := c.inner()
	if c.target.liesBefore(others) {
		return inner.top(first), aside
	}
	return aside, inner.top(others)
}

// older tells the root of those entries of s that do not lie behind the part.
func (c claim) older(s span) []byte {
	if s == c.target {
		return c.root
	}
	first, others := s.halves()
	inner, aside := c.inner()
	if c.target.liesBefore(others) {
		return inner.older(first)
	}
	return Node(c.w, aside, inner.older(others))
}

// inner tells the claim for the half in which the part lies, and the root of the other half.
func (c claim) inner() (inner claim, aside []byte) {
	last := len(c.beside) - 1
	aside = c.beside[last]
	c.beside = c.beside[:last]
	return c, aside
}
