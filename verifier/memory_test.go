package verifier_test

import (
	"bytes"
	"runtime"
	"slices"
	"testing"

	"almoner/api"
	"almoner/verifier"
)

const roomBehind = 40

// roomy tells a copy of bytes with spare room that is not empty.
func roomy(b []byte) []byte {
	return append(bytes.Clone(b), bytes.Repeat([]byte{77}, roomBehind)...)[:len(b)]
}

// isAsHanded tells whether bytes of roomy's are as they were, their spare room too.
func isAsHanded(b, was []byte) bool {
	n := len(was) + roomBehind
	return bytes.Equal(b[:n], roomy(was)[:n])
}

// scribble writes over bytes and their spare room.
func scribble(b []byte) {
	b = b[:cap(b)]
	for i := range b {
		b[i] ^= 85
	}
}

// lender hands in bytes that are looked at behind the call, and then written over.
type lender struct {
	t        *testing.T
	lent, as [][]byte
}

func (l *lender) lend(b []byte) []byte {
	c := roomy(b)
	l.lent, l.as = append(l.lent, c), append(l.as, b)
	return c
}

// end ends a call.
func (l *lender) end(what string) {
	l.t.Helper()
	for i, b := range l.lent {
		if !isAsHanded(b, l.as[i]) {
			l.t.Fatalf("P16.7: %s changes what it is handed", what)
		}
		scribble(b)
	}
	l.lent, l.as = nil, nil
}

// TestWhatIsHandedIn is not changed and not kept, whatever a call answers.
func TestWhatIsHandedIn(t *testing.T) {
	y := of(t, 4, 2)
	l, other := logOf(4, 9, 0), logOf(4, 9, 1)
	give := &lender{t: t}
	v, e := verifier.New(4, 2, give.lend(y.public()))
	if e != api.OK {
		t.Fatal(e)
	}
	give.end("New")
	for _, c := range []struct {
		what          string
		signed, proof []byte
		want          api.Errno
	}{
		{"the first", y.signed(l, 0, 4), none, api.OK},
		{"once more", y.signed(l, 0, 4), none, api.OK},
		{"no form", y.signed(l, 1, 9)[1:], l.proof(4, 9), api.EFORM},
		{"no proof", y.signed(l, 1, 9), l.proof(4, 9)[1:], api.EFORM},
		{"not signed", turned(y.signed(l, 1, 9), 300), l.proof(4, 9), api.ESIG},
		{"not proved", y.signed(l, 1, 9), none, api.EPROOF},
		{"greater", y.signed(l, 1, 9), l.proof(4, 9), api.OK},
		{"old", y.signed(l, 0, 4), l.proof(4, 9), api.EOLD},
		{"a fork by the size", y.signed(other, 2, 9), none, api.EFORK},
		{"a fork by the key", y.signed(l, 1, 7), none, api.EFORK},
		{"once more", y.signed(l, 1, 7), none, api.EFORK},
	} {
		answers(t, c.what, v, give.lend(c.signed), give.lend(c.proof), c.want)
		give.end("Head, " + c.what)
	}
	trusts(t, "all of it written over", v, y.signed(l, 1, 9))
	want := [][]byte{pieces(y.signed(l, 1, 9), y.signed(other, 2, 9)), pieces(y.signed(l, 1, 9), y.signed(l, 1, 7))}
	finds(t, "all of it written over", v, want...)
	answers(t, "seen heads stay", v, y.signed(other, 3, 4), none, api.EFORK)
	finds(t, "seen heads stay", v, append(want, pieces(y.signed(l, 0, 4), y.signed(other, 3, 4)))...)
	for _, place := range []int{0, 8, 9} {
		e := v.Entry(give.lend(l.entries[0]), place, give.lend(l.path(0, 9)))
		if want := map[int]api.Errno{0: api.OK, 8: api.EPROOF, 9: api.EARG}[place]; e != want {
			t.Errorf("P16.4: Entry at %d: %d, want %d", place, e, want)
		}
		give.end("Entry")
	}
	for _, evidence := range [][]byte{want[0], want[0][1:], turned(want[0], 300), pieces(y.signed(l, 0, 4), y.signed(l, 0, 4))} {
		e := verifier.Judge(4, 2, give.lend(y.public()), give.lend(evidence))
		if want := judgeWord(4, 2, y.public(), evidence); e != want {
			t.Errorf("P16.5: Judge: %d, want %d", e, want)
		}
		give.end("Judge")
	}
}

// standing tells a verifier that trusts a head and keeps evidence.
func standing(t *testing.T, y system) *verifier.Verifier {
	t.Helper()
	l := logOf(y.w, 9, 0)
	v := y.verifier(t)
	answers(t, "the first", v, y.signed(l, 0, 4), none, api.OK)
	answers(t, "greater", v, y.signed(l, 1, 9), l.proof(4, 9), api.OK)
	answers(t, "a fork", v, y.of(2, 9, 1), none, api.EFORK)
	answers(t, "a fork", v, y.of(1, 5, 1), none, api.EFORK)
	return v
}

// TestWhatIsHandedOut is new memory: who writes over it changes nothing, and no two lists of one answer share any.
func TestWhatIsHandedOut(t *testing.T) {
	y := of(t, 4, 2)
	v := standing(t, y)
	was := view(v)
	for range 2 {
		s, _ := v.Trusted()
		signature := bytes.Clone(s.Signature)
		scribble(s.Head.Root)
		if !bytes.Equal(s.Signature, signature) {
			t.Error("R4: the root and the signature share memory")
		}
		root := bytes.Clone(s.Head.Root)
		scribble(s.Signature)
		if !bytes.Equal(s.Head.Root, root) {
			t.Error("R4: the signature and the root share memory")
		}
		l := v.Evidence()
		second := bytes.Clone(l[1])
		scribble(l[0])
		if !bytes.Equal(l[1], second) {
			t.Error("R4: two pieces of evidence share memory")
		}
		scribble(l[1])
		l[0] = nil
		l = append(l[:1], nil)
		if len(l) != 2 || view(v) != was {
			t.Fatal("P16.7: who writes over what is told changes the verifier")
		}
	}
	answers(t, "a fork with one that was told and written over", v, y.of(3, 9, 2), none, api.EFORK)
	if l := v.Evidence(); len(l) != 3 {
		t.Errorf("P16.7: %d pieces of evidence", len(l))
	}
	for _, evidence := range v.Evidence() {
		judges(t, "what is told", y, evidence, api.OK)
	}
}

// TestWhatWasToldStays: answers that were told are not changed by what comes later.
func TestWhatWasToldStays(t *testing.T) {
	y := of(t, 4, 3)
	v := standing(t, y)
	s, _ := v.Trusted()
	l := v.Evidence()
	wasSigned, wasKept := told(s), slices.Clone(l)
	for i := range wasKept {
		wasKept[i] = bytes.Clone(l[i])
	}
	log := logOf(4, 20, 0)
	answers(t, "greater", v, y.signed(log, 5, 20), log.proof(9, 20), api.OK)
	for size := range uint32(8) {
		answers(t, "forks", v, y.of(5, size, 9), none, api.EFORK)
	}
	if !bytes.Equal(told(s), wasSigned) || !slices.EqualFunc(l, wasKept, bytes.Equal) {
		t.Error("R4: what was told has changed")
	}
}

// TestNothingInCommon: two verifiers of one public hash have nothing in common.
func TestNothingInCommon(t *testing.T) {
	y := of(t, 4, 2)
	v, u := y.verifier(t), y.verifier(t)
	answers(t, "the one", v, y.of(0, 3, 1), none, api.OK)
	trusts(t, "the other", u, nil)
	answers(t, "the other", u, y.of(0, 3, 2), none, api.OK)
	answers(t, "the other", u, y.of(1, 3, 1), none, api.EFORK)
	finds(t, "the one", v)
	trusts(t, "the one", v, y.of(0, 3, 1))
	answers(t, "the one", v, y.of(1, 3, 1), none, api.OK)
	if e := verifier.Judge(4, 2, y.public(), pieces(y.of(0, 3, 1), y.of(0, 3, 2))); e != api.OK {
		t.Errorf("P16.5: Judge: %d", e)
	}
	finds(t, "the one", v)
}

// TestLittleIsKept: however often the same is handed in, and however long the lists are that it is a piece of.
func TestLittleIsKept(t *testing.T) {
	y := of(t, 32, 2)
	l := logOf(32, 9, 0)
	v := y.verifier(t)
	first, second, fork := y.signed(l, 0, 4), y.signed(l, 1, 9), y.of(2, 9, 1)
	long := func(b []byte) []byte { return append(make([]byte, 0, 1<<20), b...) }
	for range 100 {
		v.Head(long(first), long(none))
		v.Head(long(second), long(l.proof(4, 9)))
		v.Head(long(first), long(l.proof(4, 9)))
		v.Head(long(fork), long(none))
		v.Head(long(second[1:]), long(none))
		v.Head(long(turned(second, 500)), long(none))
		v.Entry(long(l.entries[0]), 0, long(l.path(0, 9)))
	}
	finds(t, "always the same", v, pieces(second, fork), pieces(fork, second))
	with := heap()
	runtime.KeepAlive(v)
	if kept := with - heap(); kept > 1<<20 {
		t.Errorf("language rule 8: %d bytes are kept of three heads", kept)
	}
}

// heap tells how many bytes are in use, once what pools have kept back is gone, too.
func heap() int64 {
	for range 3 {
		runtime.GC()
	}
	var m runtime.MemStats
	runtime.ReadMemStats(&m)
	return int64(m.HeapAlloc)
}
