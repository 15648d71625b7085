package world_test

import (
	"strings"
	"testing"

	"almoner/api"
	"almoner/record"
)

// TestCallOfNoClient: EARG, whatever is called.
func TestCallOfNoClient(t *testing.T) {
	w := made(t, sized(1, 0), 2)
	w.Step(call(0, creates()))
	for _, client := range append([]int{2, 15}, noClients...) {
		refuses(t, w, call(client, creates()), api.EARG)
		refuses(t, w, call(client, api.Request{}), api.EARG)
		refuses(t, w, retry(client), api.EARG)
	}
}

// TestCallWithoutAForm: it is refused by the session, and never sent; no number is used up by it.
func TestCallWithoutAForm(t *testing.T) {
	w := made(t, sized(1, 0), 1)
	for _, r := range formless() {
		if record.Formed(r) {
			t.Fatalf("%s has a form", tellRequest(r))
		}
		refuses(t, w, call(0, r), api.EARG)
	}
	sends(t, w, call(0, creates()), 1, 2)
	for _, r := range formless() {
		refuses(t, w, call(0, r), api.EARG) // and what waits is not sent by it
	}
	sends(t, w, call(0, creates()), 3, 4, 5, 6)
	waits(t, "two are called", w, 0, 1, 2)
}

// TestCallDoesNotLookAtTheId: the session gives one.
func TestCallDoesNotLookAtTheId(t *testing.T) {
	w := made(t, sized(1, 0), 3)
	for i, of := range []api.Id{{}, {Client: 1, Number: 1}, {Client: 2, Number: 9}, {Client: 1<<32 - 1, Number: 1<<32 - 1}} {
		x := w.Step(call(2, with(creates(), of)))
		if x.E != api.OK || len(x.Sent) != 2*(i+1) {
			t.Fatalf("P18.3: Call with the id %v: %s", of, tellSeen(x))
		}
		isMessage(t, w, x.Sent[2*i], 12, 0, request(with(creates(), id(2, uint32(i+1)))))
		isMessage(t, w, x.Sent[2*i+1], 12, 2, ask(id(2, uint32(i+1))))
	}
	waits(t, "four are called", w, 2, 1, 2, 3, 4)
	waits(t, "another client", w, 1)
}

// TestCallLooksAtNothingElse: of a Step what its Op has no use for may be anything.
func TestCallLooksAtNothingElse(t *testing.T) {
	for _, far := range noNumbers {
		w, want := made(t, sized(1, 0), 2), made(t, sized(1, 0), 2)
		s := call(1, creates())
		s.Node, s.Index, s.N = far, far, far
		sends(t, w, s, 1, 2)
		want.Step(call(1, creates()))
		s = retry(1)
		s.Node, s.Index, s.N, s.Request = far, far, far, formless()[1]
		sends(t, w, s, 3, 4)
		want.Step(retry(1))
		if seen(w) != seen(want) {
			t.Errorf("P18.3: a Call with Node, Index and N %d does something else", far)
		}
	}
}

// TestCallOfAllRequests: each operation's, at the edges of what has a form.
func TestCallOfAllRequests(t *testing.T) {
	long := make([]api.Field, api.MaxFields)
	for i := range long {
		long[i] = text(strings.Repeat("n", i+1), strings.Repeat("t", api.MaxText))
	}
	w := made(t, sized(1, 0), 1)
	for i, r := range append(story(), creates(long...), api.Request{Op: api.OpHistory}) {
		x := w.Step(call(0, r))
		if x.E != api.OK || len(x.Sent) != 2*(i+1) {
			t.Fatalf("P18.3: Call(%s): %s", tellRequest(r), tellSeen(x))
		}
		isMessage(t, w, x.Sent[2*i], 10, 0, request(with(r, id(0, uint32(i+1)))))
	}
}

// TestRetry: of each request that waits, in the order of the ids, first what goes to the head, then what goes to the tail; of none nothing.
func TestRetry(t *testing.T) {
	w := made(t, sized(1, 0), 2)
	sends(t, w, retry(0))
	sends(t, w, call(0, creates()), 1, 2)
	sends(t, w, call(1, reads(5)), 3, 4)
	sends(t, w, call(0, reads(7)), 5, 6, 7, 8)
	isBag(t, "three were called", w, 1, 2, 3, 4, 5, 6, 7, 8)
	first, second := with(creates(), id(0, 1)), with(reads(7), id(0, 2))
	for last := 8; last < 24; last += 4 {
		sends(t, w, retry(0), last+1, last+2, last+3, last+4)
		isMessage(t, w, last+1, 10, 0, request(first))
		isMessage(t, w, last+2, 10, 2, ask(first.Id))
		isMessage(t, w, last+3, 10, 0, request(second))
		isMessage(t, w, last+4, 10, 2, ask(second.Id))
	}
	sends(t, w, retry(1), 25, 26)
	isMessage(t, w, 25, 11, 0, request(with(reads(5), id(1, 1))))
	isMessage(t, w, 26, 11, 2, ask(id(1, 1)))
}

// TestRetryOfWhatWaits: what is answered is not sent any more, by a Call neither.
func TestRetryOfWhatWaits(t *testing.T) {
	w := made(t, sized(1, 0), 1)
	w.Step(call(0, creates()))
	rounds(w, 1, 12)
	waits(t, "the first one is answered", w, 0)
	sends(t, w, retry(0))
	x := w.Step(call(0, reads(1)))
	if len(x.Sent) != 2 {
		t.Fatalf("P18.3: behind an answer Call has sent %d", x.Sent)
	}
	isMessage(t, w, x.Sent[0], 10, 0, request(with(reads(1), id(0, 2))))
	isMessage(t, w, x.Sent[1], 10, 2, ask(id(0, 2)))
}

// TestTooManyCalls: a client may call MaxEvents requests; and when the log is at its end another one's are refused by the head.
func TestTooManyCalls(t *testing.T) {
	c := sized(1, 0)
	c.Disk = api.MaxDisk
	w := made(t, c, 2)
	for i := range api.MaxEvents {
		x := w.Step(call(0, reads(1)))
		if x.E != api.OK || len(x.Sent) != 2 {
			t.Fatalf("P18.3: the call %d: %s", i, tellSeen(x))
		}
		for range 12 {
			if len(w.Waiting(0)) > 0 {
				rounds(w, 1, 1)
			}
		}
		if l := w.Waiting(0); len(l) > 0 {
			t.Fatalf("T5: behind 12 rounds %v wait", l)
		}
	}
	drain(t, w)
	if x := w.Step(call(0, reads(1))); x.E != api.ELIMIT || len(x.Sent) != 0 || len(w.Bag()) != 0 || len(w.Waiting(0)) != 0 {
		t.Errorf("P18.3: one call too many: %s", tellSeen(x))
	}
	if x := w.Step(call(0, api.Request{})); x.E != api.EARG {
		t.Errorf("P18.3: one call too many, without a form: %s", tellSeen(x))
	}
	if x := w.Step(retry(0)); x.E != api.OK || len(x.Sent) != 0 {
		t.Errorf("P18.3: Retry behind all calls: %s", tellSeen(x))
	}
	for _, node := range nodes {
		if n := len(w.Log(node)); n != api.MaxEvents {
			t.Fatalf("T1: the node %d has %d events", node, n)
		}
	}
	x := w.Step(call(1, reads(1)))
	y := w.Step(deliver(x.Sent[0]))
	isMessage(t, w, y.Sent[0], 0, 11, busy(id(1, 1), api.ELIMIT))
	sends(t, w, deliver(y.Sent[0]))
	waits(t, "the log is at its end", w, 1, 1)
	got(t, "the log is at its end", w, 1)
}
