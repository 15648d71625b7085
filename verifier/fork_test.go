package verifier_test

import (
	"bytes"
	"testing"

	"almoner/api"
	"almoner/verifier"
)

// TestForkByKey: a key that has signed two heads, whatever is unlike in them, and whatever the proof is.
func TestForkByKey(t *testing.T) {
	y := of(t, 4, 2)
	l := logOf(4, 9, 0)
	for size := range 10 {
		for n := range 10 {
			if n == size {
				continue
			}
			for _, p := range [][]byte{none, l.proof(size, n), proof(y.root(1))} {
				v := y.verifier(t)
				first, signed := y.signed(l, 2, size), y.signed(l, 2, n)
				answers(t, "the first", v, first, none, api.OK)
				for range 3 {
					answers(t, "by the same key", v, signed, p, api.EFORK)
					finds(t, "by the same key", v, pieces(first, signed))
				}
				trusts(t, "by the same key", v, first)
				answers(t, "the first again", v, first, none, api.EFORK)
				finds(t, "the first again", v, pieces(first, signed), pieces(signed, first))
				answers(t, "the first again", v, first, none, api.EFORK)
				finds(t, "the first once more", v, pieces(first, signed), pieces(signed, first))
			}
		}
	}
}

// TestForkBySize: two roots of one size, by two keys.
func TestForkBySize(t *testing.T) {
	y := of(t, 4, 2)
	for _, size := range []uint32{1, 2, 9, 1 << 31, 1<<32 - 1} {
		for bit := range 32 {
			v := y.verifier(t)
			first, signed := y.of(0, size, 9), y.sign(3, size, turned(y.root(9), bit))
			answers(t, "the first", v, first, none, api.OK)
			answers(t, "the same by another key", v, y.of(1, size, 9), none, api.OK)
			answers(t, "another root", v, signed, none, api.EFORK)
			answers(t, "another root", v, signed, proof(y.root(1)), api.EFORK)
			finds(t, "another root", v, pieces(first, signed))
			trusts(t, "another root", v, first)
		}
	}
}

// TestForkByBoth: the key's is told ahead of the size's, also when the size's was seen first.
func TestForkByBoth(t *testing.T) {
	y := of(t, 4, 2)
	bySize, byKey := y.of(0, 5, 1), y.of(1, 7, 1)
	both := y.of(1, 5, 2)
	for _, order := range [][][]byte{{bySize, byKey}, {byKey, bySize}} {
		v := y.verifier(t)
		for i, b := range order {
			if e := v.Head(b, none); e == api.EFORK || i == 0 && e != api.OK {
				t.Fatalf("P16.2: the first: %d", e)
			}
		}
		answers(t, "both", v, both, none, api.EFORK)
		finds(t, "both", v, pieces(byKey, both))
		trusts(t, "both", v, order[0])
		alone := y.of(2, 5, 3)
		answers(t, "by its size alone", v, alone, none, api.EFORK)
		finds(t, "by its size alone", v, pieces(byKey, both), pieces(bySize, alone))
	}
}

// TestForkWithTheFirst: of several that a head clashes with the first one that was seen is told.
func TestForkWithTheFirst(t *testing.T) {
	y := of(t, 4, 3)
	a, b, c, d := y.of(0, 5, 1), y.of(0, 6, 1), y.of(0, 7, 1), y.of(0, 5, 2)
	v := y.verifier(t)
	answers(t, "a", v, a, none, api.OK)
	for _, x := range [][]byte{b, c, d, c, b, a, a} {
		answers(t, "by one key", v, x, none, api.EFORK)
	}
	finds(t, "by one key", v, pieces(a, b), pieces(a, c), pieces(a, d), pieces(b, a))

	p, q, r := y.of(1, 3, 1), y.of(2, 3, 2), y.of(4, 3, 3)
	v = y.verifier(t)
	answers(t, "p", v, p, none, api.OK)
	for _, x := range [][]byte{q, r, q} {
		answers(t, "of one size", v, x, none, api.EFORK)
	}
	again := y.of(5, 3, 1) // p's root: it clashes with q, the first that is unlike it
	answers(t, "of one size", v, again, none, api.EFORK)
	answers(t, "p again", v, p, none, api.EFORK)
	finds(t, "of one size", v, pieces(p, q), pieces(p, r), pieces(q, again), pieces(q, p))
	trusts(t, "of one size", v, p)
}

// TestNoFork: what is alike does not clash, nor what is unlike in key and size.
func TestNoFork(t *testing.T) {
	y := of(t, 4, 3)
	l := logOf(4, 9, 0)
	v := y.verifier(t)
	answers(t, "the first", v, y.signed(l, 0, 4), none, api.OK)
	for range 2 {
		for key := 1; key < 5; key++ {
			answers(t, "the same by other keys", v, y.signed(l, key, 4), none, api.OK)
		}
	}
	answers(t, "one root of two sizes", v, y.sign(5, 6, l.root(4)), none, api.EPROOF)
	answers(t, "greater", v, y.signed(l, 6, 9), l.proof(4, 9), api.OK)
	answers(t, "the old one again", v, y.signed(l, 0, 4), l.proof(4, 9), api.EOLD)
	finds(t, "no fork", v)
}

// TestSeenWhateverIsAnswered: a head that holds is seen, be it answered OK, EOLD, EPROOF or EFORK.
func TestSeenWhateverIsAnswered(t *testing.T) {
	y := of(t, 4, 3)
	l := logOf(4, 20, 0)
	for _, c := range []struct {
		what   string
		signed []byte
		size   uint32
		proof  []byte
		want   api.Errno
	}{
		{"OK", y.signed(l, 1, 12), 12, l.proof(8, 12), api.OK},
		{"OK, of the trusted size", y.signed(l, 1, 8), 8, none, api.OK},
		{"EOLD", y.signed(l, 1, 5), 5, l.proof(5, 8), api.EOLD},
		{"EPROOF below", y.signed(l, 1, 5), 5, none, api.EPROOF},
		{"EPROOF above", y.signed(l, 1, 12), 12, none, api.EPROOF},
		{"EPROOF, a root of another log", y.of(1, 12, 3), 12, l.proof(8, 12), api.EPROOF},
		{"EPROOF, of size 0", y.of(1, 0, 3), 0, none, api.EPROOF},
		{"EFORK by the size", y.of(1, 8, 3), 8, none, api.EFORK},
	} {
		for _, probe := range []struct {
			what   string
			signed []byte
		}{{"its key", y.of(1, 99, 9)}, {"its size", y.of(2, c.size, 9)}} {
			v := y.verifier(t)
			first := y.signed(l, 0, 8)
			answers(t, "the first", v, first, none, api.OK)
			answers(t, c.what, v, c.signed, c.proof, c.want)
			had := v.Evidence()
			answers(t, c.what+", then "+probe.what, v, probe.signed, none, api.EFORK)
			clashesWith := c.signed
			if c.size == 8 && probe.what == "its size" {
				clashesWith = first
			}
			finds(t, c.what+", then "+probe.what, v, append(had, pieces(clashesWith, probe.signed))...)
		}
	}
	v := y.verifier(t)
	answers(t, "EFORK by the key: the first", v, y.of(0, 8, 1), none, api.OK)
	answers(t, "EFORK by the key", v, y.of(0, 9, 1), none, api.EFORK)
	answers(t, "its size", v, y.of(1, 9, 2), none, api.EFORK)
	finds(t, "its size", v, pieces(y.of(0, 8, 1), y.of(0, 9, 1)), pieces(y.of(0, 9, 1), y.of(1, 9, 2)))
}

// TestSeenWithNothingTrusted: heads are seen also ahead of the first that is trusted.
func TestSeenWithNothingTrusted(t *testing.T) {
	y := of(t, 4, 1)
	v := y.verifier(t)
	first, second := y.of(0, 3, 1), y.of(1, 3, 2)
	refuses(t, "with a hash", v, first, proof(y.root(1)), api.EPROOF)
	answers(t, "another root", v, second, none, api.EFORK)
	finds(t, "another root", v, pieces(first, second))
	trusts(t, "another root", v, nil)
	answers(t, "the first again", v, first, none, api.EFORK) // it clashes with what was seen since
	finds(t, "the first again", v, pieces(first, second), pieces(second, first))
	trusts(t, "the first again", v, nil)
	if e := v.Entry(nil, 0, none); e != api.ENONE {
		t.Errorf("P16.4: with nothing trusted: %d", e)
	}
}

// otherSignature tells a head by another signature, which holds too: of width 1 a secret that meets the lock is soon found.
func otherSignature(t *testing.T, y system, s api.Signed, skip int) api.Signed {
	t.Helper()
	for at := range len(s.Signature) {
		for x := range 256 {
			c := s
			c.Signature = bytes.Clone(s.Signature)
			c.Signature[at] = byte(x)
			if c.Signature[at] != s.Signature[at] && holdsWord(y.w, y.height, y.public(), c) {
				if skip == 0 {
					return c
				}
				skip--
			}
		}
	}
	t.Fatal("no other signature holds")
	return s
}

// TestTwoSignaturesOfOneHead do not clash; the first one that was seen stands in evidence ahead, and the one that is handed in behind.
func TestTwoSignaturesOfOneHead(t *testing.T) {
	y := of(t, 1, 1)
	good := y.head(0, 4, y.root(9))
	first, second, third := told(good), told(otherSignature(t, y, good, 0)), told(otherSignature(t, y, good, 1))
	fork := y.head(1, 4, y.root(8))
	fork1, fork2 := told(fork), told(otherSignature(t, y, fork, 0))
	v := y.verifier(t)
	for _, b := range [][]byte{second, first, third, second} {
		answers(t, "the same head", v, b, none, api.OK)
	}
	trusts(t, "the same head", v, second)
	finds(t, "the same head", v)
	for _, b := range [][]byte{fork2, fork1, fork2} {
		answers(t, "another root", v, b, none, api.EFORK)
	}
	finds(t, "another root", v, pieces(second, fork2), pieces(second, fork1))
	for _, b := range [][]byte{third, first} {
		answers(t, "the same head again", v, b, none, api.EFORK)
	}
	finds(t, "the same head again", v, pieces(second, fork2), pieces(second, fork1), pieces(fork2, third), pieces(fork2, first))
	for _, evidence := range v.Evidence() {
		if e := verifier.Judge(1, 1, y.public(), evidence); e != api.OK {
			t.Errorf("P16.6: Judge of what Evidence tells: %d", e)
		}
	}
	if e := verifier.Judge(1, 1, y.public(), pieces(first, second)); e != api.EPROOF {
		t.Errorf("P16.5: Judge of two signatures of one head: %d, want EPROOF", e)
	}
}

// TestNobodySigned: a head that nobody signed, and that holds since hashes meet, is taken for the signer's.
func TestNobodySigned(t *testing.T) {
	y := of(t, 1, 0)
	good := y.head(0, 4, y.root(9))
	v := y.verifier(t)
	answers(t, "the first", v, told(good), none, api.OK)
	found := 0
	for size := range uint32(3000) {
		s := api.Signed{Head: api.Head{Size: size, Root: good.Head.Root}, Signature: good.Signature}
		want := api.ESIG
		if holdsWord(1, 0, y.public(), s) {
			want = api.EFORK
			found++
		}
		if size == 4 {
			want = api.OK
			if found > 1 {
				want = api.EFORK
			}
		}
		answers(t, "the same signature", v, told(s), none, want)
	}
	if found < 2 || len(v.Evidence()) == 0 {
		t.Errorf("%d heads with one hash", found)
	}
}
