package verifier_test

import (
	"bytes"
	"fmt"
	"math"
	"slices"
	"testing"

	"almoner/api"
	"almoner/lamport"
	"almoner/merkle"
	"almoner/sha"
	"almoner/verifier"
	"almoner/wire"
)

// isUnseen asks that a head was not seen: neither another head by its key nor another root of its size clashes with it.
func isUnseen(t *testing.T, what string, make func() *verifier.Verifier, y system, key int, size uint32) {
	t.Helper()
	for _, c := range []struct {
		key  int
		size uint32
	}{{key, size + 50}, {key ^ 1, size}, {key, size}} {
		v := make()
		had := len(v.Evidence())
		if e := v.Head(y.of(c.key, c.size, 77), none); e == api.EFORK || len(v.Evidence()) != had {
			t.Fatalf("P16.3: %s: it was seen all the same", what)
		}
	}
}

// otherThings tells bytes of things that are neither signed heads nor proofs, and bytes that are nothing.
func otherThings(t *testing.T) map[string][]byte {
	t.Helper()
	request, err1 := wire.PutRequest(api.Request{Op: api.OpRead, Record: 1})
	answer, err2 := wire.PutAnswer(api.Answer{Code: 1})
	head, err3 := wire.PutHead(api.Head{Size: 1, Root: []byte{1, 2, 3, 4}})
	message, err4 := wire.PutMessage(api.Message{Kind: api.MsgWhat})
	for _, err := range []error{err1, err2, err3, err4} {
		if err != nil {
			t.Fatal(err)
		}
	}
	return map[string][]byte{
		"nothing": nil, "a byte 0": {0}, "a byte 5": {5}, "a byte 6": {6}, "a byte 255": {255},
		"a request": request, "an answer": answer, "a head": head, "a message": message, "zeros": make([]byte, 200),
	}
}

// formless tells signed bytes that are none.
func formless(t *testing.T, y system, good []byte) map[string][]byte {
	t.Helper()
	l := otherThings(t)
	l["a proof"] = none
	for n := range good {
		l[fmt.Sprintf("its first %d bytes", n)] = good[:n]
		l[fmt.Sprintf("without its first %d bytes", n+1)] = good[n+1:]
	}
	for _, more := range [][]byte{{0}, {5}, {0, 0, 0, 0}, good} {
		l[fmt.Sprintf("%d bytes more behind", len(more))] = slices.Concat(good, more)
	}
	l["a byte ahead"] = slices.Concat([]byte{5}, good)
	for width := 1; width <= api.MaxWidth; width++ {
		if width != y.w {
			l[fmt.Sprintf("a root of %d bytes", width)] = y.sign(0, 1, bytes.Repeat([]byte{9}, width))
		}
	}
	none, long := bytes.Clone(good), bytes.Clone(good)
	copy(none[5:], []byte{0, 0, 0, 0})
	copy(long[5:], []byte{255, 255, 255, 255})
	l["a root of no bytes"], l["a root of 2^32 - 1 bytes"] = none, long
	l["a signature that is too long"] = slices.Concat(good[:1+4+4+y.w+4], pieces(make([]byte, 32769)))
	return l
}

// formlessProofs tells proofs that are none.
func formlessProofs(t *testing.T, signed []byte) map[string][]byte {
	t.Helper()
	l := otherThings(t)
	l["a signed head"] = signed
	good := proof([]byte{1, 2, 3, 4}, []byte{5, 6, 7, 8})
	for n := range good {
		l[fmt.Sprintf("its first %d bytes", n)] = good[:n]
		l[fmt.Sprintf("without its first %d bytes", n+1)] = good[n+1:]
	}
	l["a byte more"], l["none and a byte more"] = append(bytes.Clone(good), 0), append(bytes.Clone(none), 0)
	l["a hash of no bytes"] = []byte{6, 0, 0, 0, 1, 0, 0, 0, 0}
	l["a hash of 33 bytes"] = append([]byte{6, 0, 0, 0, 1, 0, 0, 0, 33}, make([]byte, 33)...)
	l["4097 hashes"] = slices.Concat([]byte{6, 0, 0, 16, 1}, bytes.Repeat([]byte{0, 0, 0, 1, 7}, 4097))
	l["2^32 - 1 hashes"] = []byte{6, 255, 255, 255, 255}
	return l
}

// TestHeadForm: what has no form is refused ahead of all else, and nothing has changed.
func TestHeadForm(t *testing.T) {
	y := of(t, 4, 2)
	good, broken := y.of(0, 1, 9), turned(y.of(0, 1, 9), 200)
	fork := y.of(2, 3, 6)
	seen := y.of(2, 3, 5)
	for _, first := range [][]byte{nil, seen} {
		begin := func() *verifier.Verifier {
			v := y.verifier(t)
			if first != nil {
				answers(t, "the first", v, first, none, api.OK)
			}
			return v
		}
		v := begin()
		for what, b := range formless(t, y, good) {
			for _, p := range [][]byte{none, proof(y.root(1)), nil, good} {
				refuses(t, what, v, b, p, api.EFORM)
			}
		}
		for what, p := range formlessProofs(t, good) {
			for _, b := range [][]byte{good, broken, fork, seen, nil} {
				refuses(t, what, v, b, p, api.EFORM)
			}
		}
		isUnseen(t, "proofs of no form", func() *verifier.Verifier {
			v := begin()
			for _, p := range formlessProofs(t, good) {
				refuses(t, "of no form", v, good, p, api.EFORM)
			}
			return v
		}, y, 0, 1)
		isUnseen(t, "heads of no form", func() *verifier.Verifier {
			v := begin()
			for _, b := range formless(t, y, good) {
				refuses(t, "of no form", v, b, none, api.EFORM)
			}
			return v
		}, y, 0, 1)
	}
}

// unheld tells signed heads of a form that do not hold.
func unheld(t *testing.T, y system) map[string][]byte {
	t.Helper()
	l := map[string][]byte{}
	good := y.head(0, 1, y.root(9))
	change := func(what string, do func(s *api.Signed)) {
		s := good
		s.Head.Root, s.Signature = bytes.Clone(s.Head.Root), bytes.Clone(s.Signature)
		do(&s)
		l[what] = told(s)
	}
	for bit := range 8 * len(good.Signature) {
		change(fmt.Sprintf("the bit %d of the signature", bit), func(s *api.Signed) { s.Signature = turned(s.Signature, bit) })
	}
	for bit := range 8 * y.w {
		change(fmt.Sprintf("the bit %d of the root", bit), func(s *api.Signed) { s.Head.Root = turned(s.Head.Root, bit) })
	}
	for bit := range 32 {
		change(fmt.Sprintf("the bit %d of the size", bit), func(s *api.Signed) { s.Head.Size ^= 1 << bit })
		change(fmt.Sprintf("the bit %d of the key", bit), func(s *api.Signed) { s.Key ^= 1 << bit })
	}
	many := uint32(y.keys.Len())
	for _, key := range []uint32{1, many - 1, many, many + 1, 2 * many, 63, 64, 256, 1 << 31, math.MaxUint32} {
		change(fmt.Sprintf("the key %d", key), func(s *api.Signed) { s.Key = key })
	}
	for _, n := range []int{0, 1, y.w, len(good.Signature) - y.w, len(good.Signature) - 1} {
		change(fmt.Sprintf("a signature of %d bytes", n), func(s *api.Signed) { s.Signature = s.Signature[:n] })
	}
	for _, n := range []int{1, y.w, 32768 - len(good.Signature)} {
		change(fmt.Sprintf("%d bytes more in the signature", n), func(s *api.Signed) { s.Signature = append(s.Signature, make([]byte, n)...) })
	}
	change("another key's signature", func(s *api.Signed) { s.Signature = y.head(1, 1, y.root(9)).Signature })
	change("another head's signature", func(s *api.Signed) { s.Signature = y.head(0, 1, y.root(8)).Signature })
	change("another seed's signature", func(s *api.Signed) {
		other, _ := lamport.New(y.w, y.height, []byte{2})
		message, _ := wire.PutHead(s.Head)
		s.Signature, _ = other.Sign(0, message)
	})
	change("a signature of the root alone", func(s *api.Signed) { s.Signature, _ = y.keys.Sign(0, s.Head.Root) })
	change("a signature of all its bytes", func(s *api.Signed) { s.Signature, _ = y.keys.Sign(0, told(good)) })
	return l
}

// TestHeadSignature: what does not hold is refused, be it old or new, a fork or a right one, and nothing has changed.
func TestHeadSignature(t *testing.T) {
	y := of(t, 4, 2)
	for _, first := range [][]byte{nil, y.of(0, 2, 9), y.of(0, 1, 9), y.of(3, 1, 8), y.of(1, 0, 9)} {
		begin := func() *verifier.Verifier {
			v := y.verifier(t)
			if first != nil && v.Head(first, none) == api.ESIG {
				t.Fatal("P16.2: a head that holds")
			}
			return v
		}
		v := begin()
		for what, b := range unheld(t, y) {
			refuses(t, what, v, b, none, api.ESIG)
			refuses(t, what+", with a hash", v, b, proof(y.root(1)), api.ESIG)
			refuses(t, what+", with no proof", v, b, nil, api.EFORM)
		}
		if first == nil {
			isUnseen(t, "heads that do not hold", func() *verifier.Verifier {
				v := begin()
				for _, b := range unheld(t, y) {
					v.Head(b, none)
				}
				return v
			}, y, 0, 1)
		}
	}
}

// TestHeadByBits turns each bit of a head's bytes, and of some proofs' beside it.
func TestHeadByBits(t *testing.T) {
	y := of(t, 4, 1)
	l := logOf(4, 3, 0)
	v := y.verifier(t)
	answers(t, "the first", v, y.signed(l, 0, 1), none, api.OK)
	signed, p := y.signed(l, 1, 3), l.proof(1, 3)
	for bit := range 8 * len(signed) {
		e := v.Head(turned(signed, bit), p)
		if e != api.EFORM && e != api.ESIG {
			t.Errorf("P16.2: with another bit %d: %d, want EFORM or ESIG", bit, e)
		}
	}
	for bit := range 8 * len(p) {
		e := v.Head(signed, turned(p, bit))
		if e != api.EFORM && e != api.EPROOF {
			t.Errorf("P16.2: with another bit %d of the proof: %d, want EFORM or EPROOF", bit, e)
		}
	}
	trusts(t, "all these bits", v, y.signed(l, 0, 1))
	finds(t, "all these bits", v)
	answers(t, "as it was", v, signed, p, api.OK)
	trusts(t, "as it was", v, signed)
}

// TestFirstHead: from nothing trusted each root is taken but of size 0, where it is the hash of nothing; and a proof has no hashes.
func TestFirstHead(t *testing.T) {
	for _, w := range []int{1, 4, 32} {
		y := of(t, w, 1)
		nothing := sha.Sum(w, nil)
		for _, size := range []uint32{0, 1, 2, 3, 64, 1<<31 - 1, 1 << 31, 1<<31 + 1, math.MaxUint32 - 1, math.MaxUint32} {
			for what, root := range map[string][]byte{"nothing": nothing, "nines": y.root(9), "another bit": turned(nothing, 0), "the last bit": turned(nothing, 8*w-1)} {
				what = fmt.Sprintf("the first head, of width %d, size %d, root %s", w, size, what)
				signed := y.sign(1, size, root)
				v := y.verifier(t)
				for _, p := range [][]byte{proof(root), proof(nothing), proof(nothing, root), proof(y.root(1)[:1])} {
					refuses(t, what+", with hashes", v, signed, p, api.EPROOF)
				}
				if size == 0 && !bytes.Equal(root, nothing) {
					refuses(t, what, v, signed, none, api.EPROOF)
					continue
				}
				answers(t, what, v, signed, none, api.OK)
				trusts(t, what, v, signed)
				refuses(t, what+", once more", v, signed, none, api.OK)
				refuses(t, what+", once more, by another key", v, y.sign(0, size, root), none, api.OK)
			}
		}
	}
}

// TestFirstOfSizeNought: that head is trusted as any other is, and the next one is held against it.
func TestFirstOfSizeNought(t *testing.T) {
	y := of(t, 4, 2)
	l := logOf(4, 5, 0)
	v := y.verifier(t)
	answers(t, "size 0", v, y.signed(l, 2, 0), none, api.OK)
	trusts(t, "size 0", v, y.signed(l, 2, 0))
	refuses(t, "size 0 by another key", v, y.signed(l, 0, 0), none, api.OK)
	refuses(t, "a hash too many", v, y.signed(l, 3, 5), proof(l.root(0)), api.EPROOF)
	answers(t, "size 5", v, y.signed(l, 3, 5), none, api.OK)
	trusts(t, "size 5", v, y.signed(l, 3, 5))
	refuses(t, "size 0, old", v, y.signed(l, 2, 0), none, api.EOLD)
	refuses(t, "size 0, with a hash", v, y.signed(l, 2, 0), proof(l.root(0)), api.EPROOF)
}

// wrongProofs tells bytes of proofs that are none between two sizes, of a right one's hashes.
func wrongProofs(w int, right [][]byte) map[string][]byte {
	l := map[string][]byte{
		"a hash more":       proof(append(slices.Clone(right), bytes.Repeat([]byte{3}, w))...),
		"a hash more ahead": proof(append([][]byte{bytes.Repeat([]byte{3}, w)}, right...)...),
	}
	if len(right) == 0 {
		return l
	}
	l["none"] = none
	l["without the last"], l["without the first"] = proof(right[:len(right)-1]...), proof(right[1:]...)
	for i := range right {
		c := slices.Clone(right)
		c[i] = turned(c[i], 8*w-1)
		l[fmt.Sprintf("another hash %d", i)] = proof(c...)
		c = slices.Clone(right)
		c[i] = c[i][:w-1]
		l[fmt.Sprintf("a short hash %d", i)] = proof(c...)
		c = slices.Clone(right)
		c[i] = append(slices.Clone(c[i]), 0)
		l[fmt.Sprintf("a long hash %d", i)] = proof(c...)
	}
	if len(right) > 1 {
		c := slices.Clone(right)
		slices.Reverse(c)
		l["the other way round"] = proof(c...)
	}
	return l
}

// TestOldAndNew goes through all pairs of sizes of a log, with right and with wrong proofs.
func TestOldAndNew(t *testing.T) {
	const many = 18
	y := of(t, 4, 1)
	l := logOf(4, many, 0)
	for size := range many + 1 {
		for n := range many + 1 {
			what := fmt.Sprintf("%d behind %d", n, size)
			first, signed := y.signed(l, 0, size), y.signed(l, 1, n)
			v := y.verifier(t)
			answers(t, what+": the first", v, first, none, api.OK)
			for how, p := range wrongProofs(4, l.hashes(size, n)) {
				refuses(t, what+", "+how, v, signed, p, api.EPROOF)
			}
			for _, other := range []int{n - 1, n + 1, size + 1, many} {
				if other >= 0 && other <= many && len(l.hashes(size, other)) > 0 && other != n {
					refuses(t, what+", another one's proof", v, signed, l.proof(size, other), api.EPROOF)
				}
			}
			switch right := l.proof(size, n); {
			case n < size:
				refuses(t, what, v, signed, right, api.EOLD)
				refuses(t, what+", once more", v, signed, right, api.EOLD)
			case n == size:
				refuses(t, what, v, signed, right, api.OK)
			default:
				answers(t, what, v, signed, right, api.OK)
				trusts(t, what, v, signed)
				refuses(t, what+", the first again", v, first, right, api.EOLD)
				refuses(t, what+", once more", v, signed, none, api.OK)
			}
			finds(t, what, v)
		}
	}
}

// TestAnotherLog: heads of another log are not taken, above and below the trusted size, with either log's proofs; and all of them are seen.
func TestAnotherLog(t *testing.T) {
	y := of(t, 4, 1)
	l, other := logOf(4, 12, 0), logOf(4, 12, 1)
	for size := 1; size <= 12; size++ {
		for n := range 13 {
			if n == size || n == 0 {
				continue
			}
			what := fmt.Sprintf("another log's %d behind %d", n, size)
			first, signed := y.signed(l, 0, size), y.signed(other, 1, n)
			v := y.verifier(t)
			answers(t, what+": the first", v, first, none, api.OK)
			for _, p := range [][]byte{l.proof(size, n), other.proof(size, n), none} {
				refuses(t, what, v, signed, p, api.EPROOF)
			}
			answers(t, what+", this log's of that size", v, y.signed(l, 0, n), l.proof(size, n), api.EFORK) // by the key 0
			answers(t, what+", this log's by that key", v, y.signed(l, 1, n), l.proof(size, n), api.EFORK)
			finds(t, what, v, pieces(first, y.signed(l, 0, n)), pieces(signed, y.signed(l, 1, n)))
			trusts(t, what, v, first)
		}
	}
}

// TestGreatSizes: up to 2^32 - 1, as far as a proof of one hash leads.
func TestGreatSizes(t *testing.T) {
	const half = 1 << 31
	for _, w := range []int{2, 32} {
		y := of(t, w, 2)
		left, right := y.root(5), y.root(6)
		top := merkle.Node(w, left, right)
		for _, n := range []uint32{half + 1, half + 2, 3 << 30, math.MaxUint32 - 1, math.MaxUint32} {
			v := y.verifier(t)
			answers(t, "the first", v, y.sign(0, half, left), none, api.OK)
			refuses(t, "with none", v, y.sign(1, n, top), none, api.EPROOF)
			refuses(t, "with another hash", v, y.sign(1, n, top), proof(left), api.EPROOF)
			answers(t, "with its hash", v, y.sign(1, n, top), proof(right), api.OK)
			trusts(t, "a great size", v, y.sign(1, n, top))
			refuses(t, "an old one", v, y.sign(0, half, left), proof(right), api.EOLD)
			refuses(t, "an old one", v, y.sign(0, half, left), none, api.EPROOF)
			if n == math.MaxUint32 {
				refuses(t, "a size that is less by one", v, y.sign(2, n-1, top), proof(right), api.EPROOF)
			}
		}
	}
}
