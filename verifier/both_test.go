package verifier_test

import (
	"bytes"
	"fmt"
	"math"
	"math/rand"
	"slices"
	"strings"
	"testing"

	"almoner/api"
	"almoner/verifier"
)

// pair is a verifier and the words' one, which are handed the same.
type pair struct {
	t    *testing.T
	y    system
	v    *verifier.Verifier
	p    *plain
	said []string
	last api.Errno
}

func newPair(t *testing.T, y system) *pair {
	t.Helper()
	return &pair{t: t, y: y, v: y.verifier(t), p: &plain{w: y.w, height: y.height, public: y.public()}}
}

// say keeps a call, and fails if the two answers are not one, or what is told is not.
func (x *pair) say(call string, got, want api.Errno) {
	x.t.Helper()
	x.last = got
	x.said = append(x.said, call)
	if got != want {
		x.t.Fatalf("%s\nanswered %d, want %d", strings.Join(x.said, "; "), got, want)
	}
	s, ok := x.v.Trusted()
	if ok != (len(x.p.trusted) == 1) || ok && !bytes.Equal(told(s), told(x.p.trusted[0])) || !ok && !isZero(s) {
		x.t.Fatalf("%s\nTrusted: %v, %v, want %v", strings.Join(x.said, "; "), s, ok, x.p.trusted)
	}
	if got := x.v.Evidence(); !slices.EqualFunc(got, x.p.kept, bytes.Equal) {
		x.t.Fatalf("%s\nEvidence: %x, want %x", strings.Join(x.said, "; "), got, x.p.kept)
	}
}

func (x *pair) head(name string, signed, proof []byte) {
	x.t.Helper()
	size := sizeOf(x.v)
	_, isTrusted := x.v.Trusted()
	x.say("Head of "+name, x.v.Head(signed, proof), x.p.head(signed, proof))
	if now := sizeOf(x.v); now < size || isTrusted && now > size && x.last != api.OK {
		x.t.Fatalf("%s\nP16.6: the size %d is trusted behind %d", strings.Join(x.said, "; "), now, size)
	}
}

func (x *pair) entry(entry []byte, place int, path []byte) {
	x.t.Helper()
	x.say(fmt.Sprintf("Entry(%x, %d, %x)", entry, place, path), x.v.Entry(entry, place, path), x.p.entry(entry, place, path))
}

// judge holds Judge against the words, under the pair's public hash.
func (x *pair) judge(evidence []byte) api.Errno {
	x.t.Helper()
	got := verifier.Judge(x.y.w, x.y.height, x.y.public(), evidence)
	if want := judgeWord(x.y.w, x.y.height, x.y.public(), evidence); got != want {
		x.t.Fatalf("P16.5: Judge of %x: %d, want %d", evidence, got, want)
	}
	return got
}

// end asks what follows for all that is kept.
func (x *pair) end() {
	x.t.Helper()
	for _, evidence := range x.v.Evidence() {
		if e := x.judge(evidence); e != api.OK {
			x.t.Fatalf("%s\nP16.6: Judge of what is kept: %d", strings.Join(x.said, "; "), e)
		}
	}
}

// TestAllShortScripts goes through all scripts of five calls out of some.
func TestAllShortScripts(t *testing.T) {
	y := of(t, 1, 1)
	l, other := logOf(1, 3, 0), logOf(1, 3, 2)
	calls := []struct {
		name          string
		signed, proof []byte
	}{
		{"0 by 0", y.signed(l, 0, 0), none},
		{"2 by 0", y.signed(l, 0, 2), none},
		{"2 by 1", y.signed(l, 1, 2), l.proof(2, 3)},
		{"3 by 1", y.signed(l, 1, 3), none},
		{"3 by 1, from 2", y.signed(l, 1, 3), l.proof(2, 3)},
		{"another 3 by 0", y.signed(other, 0, 3), other.proof(2, 3)},
		{"another 2 by 1", y.signed(other, 1, 2), none},
		{"2 by 0, not signed", turned(y.signed(l, 0, 2), 200), none},
		{"2 by 1, no proof", y.signed(l, 1, 2), nil},
	}
	seen := map[api.Errno]int{}
	var choose func(script []int)
	choose = func(script []int) {
		if len(script) == 5 {
			x := newPair(t, y)
			for _, i := range script {
				x.head(calls[i].name, calls[i].signed, calls[i].proof)
				seen[x.last]++
			}
			return
		}
		for i := range calls {
			choose(append(script, i))
		}
	}
	choose(nil)
	for _, e := range []api.Errno{api.OK, api.EFORM, api.ESIG, api.EPROOF, api.EFORK, api.EOLD} {
		if seen[e] == 0 {
			t.Errorf("no script was answered %d", e)
		}
	}
}

// stock is what any calls are made of.
type stock struct {
	logs           []log
	signed, proofs [][]byte
}

// newStock tells heads of two logs by all keys, heads that are of none, proofs of both, and some of all these changed.
func newStock(r *rand.Rand, y system, n int) stock {
	s := stock{logs: []log{logOf(y.w, n, 0), logOf(y.w, n, 1)}, proofs: [][]byte{none, nil}}
	for _, l := range s.logs {
		for size := range n + 1 {
			s.signed = append(s.signed, y.signed(l, r.Intn(y.keys.Len()), size), y.signed(l, r.Intn(y.keys.Len()), size))
			for m := range size + 1 {
				s.proofs = append(s.proofs, l.proof(m, size))
			}
		}
	}
	for range 5 {
		s.signed = append(s.signed, y.of(r.Intn(y.keys.Len()), r.Uint32()>>r.Intn(32), byte(r.Intn(256))))
	}
	return s
}

func oneOf[T any](r *rand.Rand, l []T) T { return l[r.Intn(len(l))] }

// anyHead hands in a head, most often with the proof that goes with it.
func (x *pair) anyHead(r *rand.Rand, s stock) {
	x.t.Helper()
	l, size := oneOf(r, s.logs), sizeOf(x.v)
	if size < len(l.entries) && r.Intn(3) > 0 {
		n := r.Intn(len(l.entries) + 1)
		key := r.Intn(x.y.keys.Len())
		x.head(fmt.Sprintf("size %d by %d", n, key), x.y.signed(l, key, n), l.proof(n, size))
		return
	}
	signed, p := oneOf(r, s.signed), oneOf(r, s.proofs)
	switch r.Intn(8) {
	case 0:
		signed = turned(signed, r.Intn(8*len(signed)))
	case 1:
		signed = signed[:r.Intn(len(signed))]
	case 2:
		if len(p) > 0 {
			p = turned(p, r.Intn(8*len(p)))
		}
	}
	x.head(fmt.Sprintf("%x with %x", signed, p), signed, p)
}

func (x *pair) anyEntry(r *rand.Rand, s stock) {
	x.t.Helper()
	l, size := oneOf(r, s.logs), sizeOf(x.v)
	place, p := r.Intn(size+3)-1, oneOf(r, s.proofs)
	if place >= 0 && place < size && size <= len(l.entries) {
		p = l.path(place, size)
	}
	x.entry(oneOf(r, l.entries), place, p)
	if place >= 0 && place < len(l.entries) {
		x.entry(l.entries[place], place, p)
	}
}

// TestAnyCalls holds both verifiers against each other, behind every call.
func TestAnyCalls(t *testing.T) {
	r := rand.New(rand.NewSource(1616))
	count := map[api.Errno]int{}
	for i := range 400 {
		shape := []struct{ w, height int }{{1, 0}, {1, 3}, {2, 1}, {2, 6}, {1, 6}, {4, 2}}[i%6]
		x := newPair(t, of(t, shape.w, shape.height))
		s := newStock(r, x.y, 1+r.Intn(9))
		for range 40 {
			if r.Intn(4) == 0 {
				x.anyEntry(r, s)
			} else {
				x.anyHead(r, s)
			}
			count[x.last]++
		}
		x.end()
	}
	for _, e := range []api.Errno{api.OK, api.EARG, api.EFORM, api.ESIG, api.EPROOF, api.EFORK, api.EOLD, api.ENONE} {
		if count[e] < 10 {
			t.Errorf("%d was answered %d times", e, count[e])
		}
	}
}

// TestAnyEvidence holds Judge against the words at evidence of any two, and that with something changed.
func TestAnyEvidence(t *testing.T) {
	r := rand.New(rand.NewSource(1617))
	count := map[api.Errno]int{}
	for _, shape := range []struct{ w, height int }{{1, 0}, {1, 1}, {2, 2}, {4, 1}} {
		x := newPair(t, of(t, shape.w, shape.height))
		s := newStock(r, x.y, 4)
		for range 2000 {
			b := pieces(oneOf(r, s.signed), oneOf(r, s.signed))
			switch r.Intn(5) {
			case 0:
				b = turned(b, r.Intn(8*len(b)))
			case 1:
				b = turned(b, r.Intn(60))
			case 2:
				b = b[:r.Intn(len(b))]
			}
			count[x.judge(b)]++
		}
	}
	for _, e := range []api.Errno{api.OK, api.EFORM, api.ESIG, api.EPROOF} {
		if count[e] < 10 {
			t.Errorf("%d was answered %d times", e, count[e])
		}
	}
}

// anyBytes tells some, such as begin like a thing's, or any.
func anyBytes(r *rand.Rand) []byte {
	b := make([]byte, r.Intn(60))
	for i := range b {
		b[i] = byte(r.Intn(256) * r.Intn(2) * r.Intn(2))
	}
	if len(b) > 0 {
		b[0] = byte(r.Intn(8))
	}
	return b
}

// TestAnyBytes: no call panics, each ends, and each answers what the words say, at any bytes and any numbers.
func TestAnyBytes(t *testing.T) {
	r := rand.New(rand.NewSource(1618))
	numbers := append(edges(), math.MaxUint32, math.MaxUint32-1)
	for _, shape := range []struct{ w, height int }{{1, 0}, {2, 1}, {32, 0}} {
		for _, isTrusting := range []bool{false, true} {
			x := newPair(t, of(t, shape.w, shape.height))
			if isTrusting {
				x.head("the greatest", x.y.of(0, math.MaxUint32, 9), none)
			}
			for range 4000 {
				x.head("any bytes", anyBytes(r), anyBytes(r))
				x.entry(anyBytes(r), oneOf(r, numbers), anyBytes(r))
				x.entry(anyBytes(r), oneOf(r, numbers), none)
				x.judge(anyBytes(r))
				x.said = nil
			}
		}
	}
	for range 20000 {
		w, height, public := oneOf(r, numbers), oneOf(r, numbers), anyBytes(r)
		if v, e := verifier.New(w, height, public); (v == nil) != (e == api.EARG) || (e == api.OK) != mayBeWord(w, height, public) {
			t.Fatalf("P16.1: New(%d, %d, %d bytes): %v, %d", w, height, len(public), v, e)
		}
		b := anyBytes(r)
		if got, want := verifier.Judge(w, height, public, b), judgeWord(w, height, public, b); got != want {
			t.Fatalf("P16.5: Judge(%d, %d, %d bytes, %x): %d, want %d", w, height, len(public), b, got, want)
		}
	}
}
