package world_test

import (
	"bytes"
	"math"
	"testing"

	"almoner/api"
	"almoner/lamport"
	"almoner/merkle"
	"almoner/verifier"
	"almoner/wire"
	"almoner/world"
)

// entriesOf tells the entries of events.
func entriesOf(t testing.TB, l []api.Event) [][]byte {
	t.Helper()
	var all [][]byte
	for _, ev := range l {
		b, err := wire.PutEvent(ev)
		if err != nil {
			t.Fatal(err)
		}
		all = append(all, b)
	}
	return all
}

// TestSign: the head of all that the tail has, signed by the next key; the same again without one.
func TestSign(t *testing.T) {
	for _, width := range []int{1, 4, 32} {
		c := sized(width, 2)
		w := made(t, c, 1)
		for n := range 4 {
			b := signs(t, w, uint32(n))
			head, _ := wire.GetSigned(b)
			root := merkle.Root(width, entriesOf(t, w.Log(2)))
			message, _ := wire.PutHead(head.Head)
			if !bytes.Equal(head.Head.Root, root) || head.Key != uint32(n) || !lamport.Check(width, 2, w.Public(), n, message, head.Signature) {
				t.Errorf("T4: the head of %d events: root %x, want %x, key %d", n, head.Head.Root, root, head.Key)
			}
			for range 2 {
				if !bytes.Equal(signs(t, w, uint32(n)), b) {
					t.Error("T4: a head of one size is signed otherwise")
				}
				w.Step(crash(2, 0))
				w.Step(restart(2, 0))
			}
			w.Step(call(0, creates()))
			rounds(w, 1, 12)
		}
		refuses(t, w, sign(), api.EKEYS)
	}
}

// TestSignRefused: the tail's being off comes ahead; then what Head answers; no other node's state is looked at.
func TestSignRefused(t *testing.T) {
	w := standing(t, sized(1, 0), 1, creates())
	sends(t, w, fill(2, 1))
	refuses(t, w, sign(), api.EFULL)
	sends(t, w, crash(2, 0))
	refuses(t, w, sign(), api.EOFF)
	sends(t, w, fill(2, 0))
	sends(t, w, restart(2, 0))
	sends(t, w, crash(0, 0))
	sends(t, w, crash(1, 0))
	signs(t, w, 1)
	sends(t, w, fill(2, 1))
	signs(t, w, 1) // it is bound: nothing is written
	sends(t, w, crash(2, 0))
	refuses(t, w, sign(), api.EOFF) // though it is bound
}

// TestSignLooksAtNothingElse: a step's other numbers may be any.
func TestSignLooksAtNothingElse(t *testing.T) {
	for _, far := range noNumbers {
		w := standing(t, sized(1, 0), 1, creates())
		x := w.Step(world.Step{Op: world.Sign, Node: far, Client: far, Index: far, N: far, Request: creates()})
		if x.E != api.OK || !bytes.Equal(x.Bytes, signs(t, w, 1)) {
			t.Errorf("P18.3: Sign with other numbers: %s", tellSeen(x))
		}
	}
}

// TestSignWithAnArmedWrite: to bind a key is a write: the tail goes off, nothing is told; behind a restart the key is bound just if its frame has come through.
func TestSignWithAnArmedWrite(t *testing.T) {
	for _, width := range []int{1, 4} {
		frame := 12 + 9 + width
		for torn := 0; torn <= frame+1; torn++ {
			for _, keep := range []int{-1, 0, frame - 1, frame, math.MaxInt} {
				w := standing(t, sized(width, 0), 1, creates())
				sends(t, w, arm(2, 1, torn))
				does(t, w, sign(), told{e: api.EOFF})
				isUp(t, "an armed write", w, true, true, false)
				isLog(t, "an armed write", w, 2, 1)
				refuses(t, w, sign(), api.EOFF)
				sends(t, w, restart(2, keep))
				isLog(t, "restarted", w, 2, 1)
				isBound := min(torn, keep) >= frame
				w.Step(call(0, creates()))
				rounds(w, 1, 12)
				isLog(t, "one more", w, 2, 1, 2)
				if isBound {
					refuses(t, w, sign(), api.EKEYS) // the one key is bound to the head of size 1
				} else {
					signs(t, w, 2)
				}
			}
		}
	}
}

// TestProofs: what the tail tells for each place and size, as bytes; EARG beyond.
func TestProofs(t *testing.T) {
	for _, width := range []int{1, 32} {
		w := standing(t, sized(width, 0), 2, story()...)
		entries := entriesOf(t, w.Log(2))
		for size := -1; size <= len(entries)+1; size++ {
			for place := -1; place <= size+1; place++ {
				isProof(t, w, include(place, size), entries, width, func(l [][]byte) ([][]byte, api.Errno) { return merkle.Path(width, l, place) })
				isProof(t, w, extend(place, size), entries, width, func(l [][]byte) ([][]byte, api.Errno) { return merkle.Proof(width, l, place) })
			}
		}
		for _, far := range noNumbers[1:] {
			refuses(t, w, include(far, 3), api.EARG)
			refuses(t, w, include(0, far), api.EARG)
			refuses(t, w, include(far, far), api.EARG)
			refuses(t, w, extend(far, 3), api.EARG)
			refuses(t, w, extend(0, far), api.EARG)
			refuses(t, w, extend(far, far), api.EARG)
		}
	}
}

// isProof asks for the bytes of what merkle tells of the first so many entries.
func isProof(t *testing.T, w *world.World, s world.Step, entries [][]byte, width int, tell func([][]byte) ([][]byte, api.Errno)) {
	t.Helper()
	if s.N < 0 || s.N > len(entries) {
		refuses(t, w, s, api.EARG)
		return
	}
	hashes, e := tell(entries[:s.N])
	if e != api.OK {
		refuses(t, w, s, e)
		return
	}
	want, _ := wire.PutProof(api.Proof{Hashes: hashes})
	was := seen(w)
	if x := w.Step(s); x.E != api.OK || !bytes.Equal(x.Bytes, want) || len(x.Sent)+len(x.Answers) != 0 {
		t.Errorf("P18.3: %s: %s, want %x", tellStep(s), tellSeen(x), want)
	}
	if seen(w) != was {
		t.Errorf("P18.3: %s has changed the world", tellStep(s))
	}
}

// TestProofsWhenTheTailIsOff: EOFF, ahead of EARG; the others' states are not looked at.
func TestProofsWhenTheTailIsOff(t *testing.T) {
	w := standing(t, sized(1, 0), 1, creates(), creates())
	sends(t, w, crash(0, 0))
	sends(t, w, crash(1, 0))
	for _, s := range []world.Step{include(1, 2), extend(1, 2)} {
		s.Node, s.Client = -7, 99
		if x := w.Step(s); x.E != api.OK || len(x.Bytes) == 0 {
			t.Errorf("P18.3: %s: %s", tellStep(s), tellSeen(x))
		}
	}
	sends(t, w, crash(2, 0))
	for _, n := range []int{-1, 0, 1, 2, 3, math.MaxInt} {
		for _, at := range []int{-1, 0, 1, 2, 3, math.MinInt} {
			refuses(t, w, include(at, n), api.EOFF)
			refuses(t, w, extend(at, n), api.EOFF)
		}
	}
	sends(t, w, restart(2, 0))
	refuses(t, w, include(2, 2), api.EARG)
	refuses(t, w, extend(3, 2), api.EARG)
}

// TestProofsOfTheTail: they are of its log, not of the longer ones ahead.
func TestProofsOfTheTail(t *testing.T) {
	w := standing(t, sized(1, 2), 1, creates())
	w.Step(call(0, creates()))
	w.Step(deliver(w.Bag()[0]))
	isLog(t, "the head has more", w, 0, 1, 2)
	refuses(t, w, include(1, 2), api.EARG)
	refuses(t, w, extend(1, 2), api.EARG)
	signs(t, w, 1)
}

// TestAStranger: the bytes that are told are all that a verifier needs.
func TestAStranger(t *testing.T) {
	for _, width := range []int{1, 2, 32} {
		c := sized(width, 3)
		w := made(t, c, 2)
		v, e := verifier.New(width, 3, w.Public())
		if e != api.OK {
			t.Fatal(e)
		}
		trusted := 0
		for i, r := range story()[:7] {
			w.Step(call(i%2, r))
			rounds(w, 2, 12)
			size := len(w.Log(2))
			if e := v.Head(signs(t, w, uint32(size)), w.Step(extend(trusted, size)).Bytes); e != api.OK {
				t.Fatalf("T4: the head of size %d: %d", size, e)
			}
			trusted = size
			for place, entry := range entriesOf(t, w.Log(2)) {
				if e := v.Entry(entry, place, w.Step(include(place, size)).Bytes); e != api.OK {
					t.Errorf("T4: the entry %d of %d: %d", place, size, e)
				}
			}
		}
		if len(v.Evidence()) != 0 {
			t.Error("T4: there is evidence")
		}
	}
}
