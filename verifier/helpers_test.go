package verifier_test

import (
	"bytes"
	"encoding/binary"
	"slices"
	"testing"

	"almoner/api"
	"almoner/lamport"
	"almoner/merkle"
	"almoner/verifier"
	"almoner/wire"
)

// system is whoever has the keys: of a width, a height, and the seed 1.
type system struct {
	w, height int
	keys      *lamport.Keys
}

var madeSystems = map[[2]int]system{}

// of tells the system of a width and a height, each made once.
func of(t testing.TB, w, height int) system {
	t.Helper()
	name := [2]int{w, height}
	if _, isMade := madeSystems[name]; !isMade {
		k, e := lamport.New(w, height, []byte{1})
		if e != api.OK {
			t.Fatalf("lamport.New(%d, %d): %d", w, height, e)
		}
		madeSystems[name] = system{w, height, k}
	}
	return madeSystems[name]
}

func (y system) public() []byte { return y.keys.Public() }

// verifier tells a new one.
func (y system) verifier(t testing.TB) *verifier.Verifier {
	t.Helper()
	v, e := verifier.New(y.w, y.height, y.public())
	if v == nil || e != api.OK {
		t.Fatalf("P16.1: New(%d, %d, its public hash): %v, %d", y.w, y.height, v, e)
	}
	return v
}

// head tells a head that a key has signed.
func (y system) head(key int, size uint32, root []byte) api.Signed {
	h := api.Head{Size: size, Root: root}
	message, err := wire.PutHead(h)
	if err != nil {
		panic(err)
	}
	signature, e := y.keys.Sign(key, message)
	if e != api.OK {
		panic(e)
	}
	return api.Signed{Head: h, Key: uint32(key), Signature: signature}
}

// sign tells the bytes of a head that a key has signed.
func (y system) sign(key int, size uint32, root []byte) []byte {
	return told(y.head(key, size, root))
}

// of tells S of the examples: a root that has one byte again and again.
func (y system) of(key int, size uint32, x byte) []byte {
	return y.sign(key, size, y.root(x))
}

func (y system) root(x byte) []byte { return bytes.Repeat([]byte{x}, y.w) }

// told tells a signed head's bytes.
func told(s api.Signed) []byte {
	b, err := wire.PutSigned(s)
	if err != nil {
		panic(err)
	}
	return b
}

// proof tells the bytes of one.
func proof(hashes ...[]byte) []byte {
	b, err := wire.PutProof(api.Proof{Hashes: hashes})
	if err != nil {
		panic(err)
	}
	return b
}

var none = proof()

// pieces tells evidence of two byte strings.
func pieces(l ...[]byte) []byte {
	var all []byte
	for _, b := range l {
		all = binary.BigEndian.AppendUint32(all, uint32(len(b)))
		all = append(all, b...)
	}
	return all
}

// log is entries of which the first so many are asked for.
type log struct {
	w       int
	entries [][]byte
}

// logOf tells one of n entries, unlike those of another salt.
func logOf(w, n int, salt byte) log {
	l := log{w: w}
	for i := range n {
		l.entries = append(l.entries, []byte{salt, byte(i >> 8), byte(i)})
	}
	return l
}

func (l log) root(n int) []byte { return merkle.Root(l.w, l.entries[:n]) }

// hashes tells those of the proof between two sizes, the greater one of which may come first.
func (l log) hashes(m, n int) [][]byte {
	p, e := merkle.Proof(l.w, l.entries[:max(m, n)], min(m, n))
	if e != api.OK {
		panic(e)
	}
	return p
}

func (l log) proof(m, n int) []byte { return proof(l.hashes(m, n)...) }

func (l log) hashesTo(i, n int) [][]byte {
	p, e := merkle.Path(l.w, l.entries[:n], i)
	if e != api.OK {
		panic(e)
	}
	return p
}

func (l log) path(i, n int) []byte { return proof(l.hashesTo(i, n)...) }

// signed tells the bytes of the log's head of a size.
func (y system) signed(l log, key, n int) []byte { return y.sign(key, uint32(n), l.root(n)) }

// answers asks for what Head answers.
func answers(t testing.TB, what string, v *verifier.Verifier, signed, proof []byte, want api.Errno) {
	t.Helper()
	if e := v.Head(signed, proof); e != want {
		t.Fatalf("P16.2: %s: Head: %d, want %d", what, e, want)
	}
}

// refuses asks for an error of Head by which nothing is changed that Trusted and Evidence tell.
func refuses(t testing.TB, what string, v *verifier.Verifier, signed, proof []byte, want api.Errno) {
	t.Helper()
	was := view(v)
	answers(t, what, v, signed, proof, want)
	if now := view(v); now != was {
		t.Fatalf("P16.3: %s, answered %d: it had\n%x\nand has\n%x", what, want, was, now)
	}
}

// finds asks for all the evidence.
func finds(t testing.TB, what string, v *verifier.Verifier, want ...[]byte) {
	t.Helper()
	if got := v.Evidence(); !slices.EqualFunc(got, want, bytes.Equal) {
		t.Fatalf("P16.2: %s: Evidence: %x, want %x", what, got, want)
	}
}

// trusts asks for the trusted head, by its bytes; for none, if there are none.
func trusts(t testing.TB, what string, v *verifier.Verifier, want []byte) {
	t.Helper()
	s, ok := v.Trusted()
	if want == nil {
		if ok || !isZero(s) {
			t.Fatalf("P16.3: %s: Trusted: %v, %v, want the zero value and false", what, s, ok)
		}
		return
	}
	if !ok || !bytes.Equal(told(s), want) {
		t.Fatalf("P16.3: %s: Trusted: %v, %v, want %x", what, s, ok, want)
	}
}

func isZero(s api.Signed) bool {
	return s.Head.Size == 0 && len(s.Head.Root) == 0 && s.Key == 0 && len(s.Signature) == 0
}

// view tells all that is told without a question. (Of a signed head the first byte is 5, of a piece's length 0: so what is trusted is not taken for evidence.)
func view(v *verifier.Verifier) string {
	all := pieces(v.Evidence()...)
	if s, ok := v.Trusted(); ok {
		all = append(all, told(s)...)
	}
	return string(all)
}

// turned tells a copy with another bit.
func turned(b []byte, bit int) []byte {
	c := bytes.Clone(b)
	c[bit/8] ^= 1 << (bit % 8)
	return c
}
