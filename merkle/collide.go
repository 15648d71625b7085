package merkle

import "bytes"

// CollidePath tells two unlike byte strings with one hash, where a path leads from another leaf than the entry's to the root.
func CollidePath(w int, entries [][]byte, i int, leaf []byte, path [][]byte) (a, b []byte, ok bool) {
	t, n := grown(w, entries), len(entries)
	root, _ := t.Root(n)
	if !CheckPath(w, leaf, i, n, path, root) || bytes.Equal(leaf, Leaf(w, entries[i])) {
		return nil, nil, false
	}
	return t.first(n).collide(ofEntry(w, leaf, i, path))
}

// CollideProof tells two unlike byte strings with one hash, where a proof leads from another root than that of the first m entries to that of all.
func CollideProof(w int, entries [][]byte, m int, old []byte, proof [][]byte) (a, b []byte, ok bool) {
	t, n := grown(w, entries), len(entries)
	root, _ := t.Root(n)
	if !CheckProof(w, m, n, old, root, proof) {
		return nil, nil, false
	}
	// Where m is 0 or n no other old is taken: so behind this SUB has a way to go.
	if right, _ := t.Root(m); bytes.Equal(old, right) {
		return nil, nil, false
	}
	c, _ := ofProof(w, m, n, old, proof)
	return t.first(n).collide(c)
}

// collide goes down toward the part that the claim is of, and tells where the bytes hashed by it first differ from the tree's. Both have one root for p; were all bytes alike down to that part, all that is claimed would be the tree's too: so a place is found ahead of it.
func (p part) collide(c claim) (a, b []byte, ok bool) {
	first, others := p.halves()
	left, right := c.sides(p.span)
	a, b = join(nodeMark, left, right), join(nodeMark, first.root(), others.root())
	if !bytes.Equal(a, b) {
		return a, b, true
	}
	inner, _ := c.inner()
	if c.target.liesBefore(others.span) {
		return first.collide(inner)
	}
	return others.collide(inner)
}
