package world_test

import (
	"bytes"
	"testing"

	"almoner/api"
	"almoner/wire"
	"almoner/world"
)

// signs asks for a head of a size, and tells its bytes.
func signs(t testing.TB, w *world.World, size uint32) []byte {
	t.Helper()
	x := w.Step(sign())
	head, err := wire.GetSigned(x.Bytes)
	if x.E != api.OK || len(x.Sent)+len(x.Answers) != 0 || err != nil || head.Head.Size != size {
		t.Fatalf("P18.3: Sign: %s, of size %d, %v, want size %d", tellSeen(x), head.Head.Size, err, size)
	}
	return x.Bytes
}

// TestExamples goes through the chapter's table, row by row.
func TestExamples(t *testing.T) {
	w := made(t, examples(), 1)
	first := id(0, 1)

	sends(t, w, call(0, creates()), 1, 2)
	waits(t, "called", w, 0, 1)
	isMessage(t, w, 1, 10, 0, request(with(creates(), first)))
	isMessage(t, w, 2, 10, 2, ask(first))

	sends(t, w, deliver(1))
	sends(t, w, deliver(2))
	isLog(t, "delivered", w, 0, 1)
	isLog(t, "delivered", w, 1)
	ev := w.Log(0)[0]

	sends(t, w, tick(0), 3)
	sends(t, w, tick(1), 4)
	isMessage(t, w, 3, 0, 1, what())
	isMessage(t, w, 4, 1, 2, what())

	sends(t, w, deliver(3), 5)
	isMessage(t, w, 5, 1, 0, have(0))
	sends(t, w, deliver(5), 6)
	isMessage(t, w, 6, 0, 1, give(ev))
	sends(t, w, deliver(6), 7)
	isMessage(t, w, 7, 1, 0, have(1))

	sends(t, w, crash(1, 0))
	isUp(t, "crashed", w, true, false, true)
	isLog(t, "crashed", w, 1, 1)
	sends(t, w, deliver(4), 8)
	isMessage(t, w, 8, 2, 1, have(0))
	sends(t, w, deliver(7))
	refuses(t, w, tick(1), api.EOFF)
	sends(t, w, restart(1, 0))
	isUp(t, "restarted", w, true, true, true)
	isLog(t, "restarted", w, 1, 1)

	sends(t, w, deliver(8), 9)
	isMessage(t, w, 9, 1, 2, give(ev))
	sends(t, w, deliver(9), 10)
	isMessage(t, w, 10, 2, 1, have(1))

	sends(t, w, retry(0), 11, 12)
	sends(t, w, deliver(11))
	sends(t, w, deliver(12), 13)
	isMessage(t, w, 13, 2, 10, answer(created(first, 1)))
	answers(t, w, deliver(13), created(first, 1))
	waits(t, "answered", w, 0)
	got(t, "answered", w, 0, created(first, 1))
	isBag(t, "at the end", w, 10)

	head := signs(t, w, 1)
	if !bytes.Equal(signs(t, w, 1), head) {
		t.Error("P18.3: Sign of the same head tells other bytes")
	}
	w.Step(call(0, creates()))
	rounds(w, 1, 12)
	signs(t, w, 2)
	w.Step(call(0, creates()))
	rounds(w, 1, 12)
	isLog(t, "three are done", w, 2, 1, 2, 3)
	refuses(t, w, sign(), api.EKEYS)
}

// TestTenthExample is DOC.md's, with the steps that its lines play.
func TestTenthExample(t *testing.T) {
	w := made(t, examples(), 1)
	sends(t, w, call(0, creates()), 1, 2)
	sends(t, w, deliver(1))
	sends(t, w, tick(0), 3)
	sends(t, w, deliver(3), 4)
	sends(t, w, deliver(4), 5)
	sends(t, w, deliver(5), 6)
	sends(t, w, deliver(6))
	isLog(t, "given", w, 1, 1)
	sends(t, w, tick(1), 7)
	isMessage(t, w, 7, 1, 2, what())
}

// TestExamplesOfTheShell are chapter 21's of crashes, torn writes, a full disk and a doubled message, with the steps that their lines play.
func TestExamplesOfTheShell(t *testing.T) {
	first := created(id(0, 1), 1)

	w := made(t, examples(), 1)
	sends(t, w, call(0, creates()), 1, 2)
	sends(t, w, deliver(1))
	sends(t, w, crash(0, 0))
	refuses(t, w, tick(0), api.EOFF)
	sends(t, w, restart(0, 0))
	isLog(t, "a crash behind what was synced", w, 0, 1)
	rounds(w, 1, 7)
	isLog(t, "a crash behind what was synced", w, 2, 1)
	isBag(t, "a crash behind what was synced", w)

	w = made(t, examples(), 1)
	sends(t, w, call(0, creates()), 1, 2)
	sends(t, w, fill(0, 1))
	sends(t, w, deliver(1), 3)
	isBag(t, "a full disk", w, 2, 3)
	isMessage(t, w, 3, 0, 10, busy(id(0, 1), api.EFULL))
	sends(t, w, deliver(3))
	isLog(t, "a full disk", w, 0)
	sends(t, w, fill(0, 0))
	rounds(w, 1, 7)
	got(t, "a full disk", w, 0, first)

	for _, stays := range []bool{false, true} {
		keep, numbers := 0, []uint32(nil)
		torn := 5
		if stays {
			torn, keep, numbers = 1000, 1000, []uint32{1}
		}
		w = made(t, examples(), 1)
		sends(t, w, arm(0, 1, torn))
		sends(t, w, call(0, creates()), 1, 2)
		sends(t, w, deliver(1))
		isLog(t, "a torn write", w, 0)
		isUp(t, "a torn write", w, false, true, true)
		sends(t, w, restart(0, keep))
		isLog(t, "a torn write", w, 0, numbers...)
		rounds(w, 1, 8)
		got(t, "a torn write", w, 0, first)
	}

	w = made(t, examples(), 1)
	sends(t, w, call(0, creates()), 1, 2)
	sends(t, w, double(1), 3)
	sends(t, w, deliver(3))
	sends(t, w, deliver(1))
	sends(t, w, drop(2))
	refuses(t, w, drop(2), api.ENONE)
	isLog(t, "a doubled message", w, 0, 1)
	isBag(t, "a doubled message", w)
}

// TestNumbersOfTheShell: which numbers chapter 21's examples get behind runs of 8 rounds, and the roots that are signed there.
func TestNumbersOfTheShell(t *testing.T) {
	w := made(t, examples(), 1)
	for i, sent := range []int{1, 33, 53, 73, 93, 113} {
		if i == 1 || i == 2 {
			root := [][]byte{{0x08, 0xb5, 0x83, 0x75}, {0x13, 0x0c, 0xc1, 0x43}}[i-1]
			head, _ := wire.GetSigned(signs(t, w, uint32(i)))
			if !bytes.Equal(head.Head.Root, root) {
				t.Errorf("T4: the root of %d events: %x, want %x", i, head.Head.Root, root)
			}
		}
		r := creates()
		if i > 0 {
			r = api.Request{Actor: 1, Op: api.OpRead, Record: 1}
		}
		sends(t, w, call(0, r), sent, sent+1)
		rounds(w, 1, 8)
		waits(t, "behind 8 rounds", w, 0)
	}
	w = made(t, examples(), 1)
	head, _ := wire.GetSigned(signs(t, w, 0))
	if !bytes.Equal(head.Head.Root, []byte{0xe3, 0xb0, 0xc4, 0x42}) {
		t.Errorf("T4: the root of nothing: %x", head.Head.Root)
	}
}
