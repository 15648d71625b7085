package world_test

import (
	"slices"
	"testing"

	"almoner/api"
	"almoner/record"
	"almoner/world"
)

// TestNoSuchNode: of one that there is not nothing is told.
func TestNoSuchNode(t *testing.T) {
	w := standing(t, sized(1, 0), 1, creates(), creates())
	for _, node := range noNodes {
		if w.Up(node) || len(w.Log(node)) != 0 {
			t.Errorf("P18.2: of the node %d: %v, %v", node, w.Up(node), w.Log(node))
		}
	}
}

// TestNoSuchClient: likewise; of one below those that there may be, too.
func TestNoSuchClient(t *testing.T) {
	for _, clients := range []int{1, 3} {
		w := standing(t, sized(1, 0), clients, creates(), creates(), creates())
		for client := range clients {
			w.Step(call(client, creates()))
		}
		for _, client := range append([]int{clients, 15}, noClients...) {
			if len(w.Waiting(client)) != 0 || len(w.Got(client)) != 0 {
				t.Errorf("P18.2: of the client %d of %d: %v, %v", client, clients, w.Waiting(client), w.Got(client))
			}
		}
	}
}

// TestUp: what has crashed is off, what is restarted is up, each of its own.
func TestUp(t *testing.T) {
	for set := range 8 {
		w := made(t, sized(1, 0), 1)
		var want []bool
		for _, node := range nodes {
			if set>>node&1 == 1 {
				sends(t, w, crash(node, 0))
			}
			want = append(want, set>>node&1 == 0)
		}
		isUp(t, "some have crashed", w, want...)
		for _, node := range nodes {
			if !want[node] {
				sends(t, w, restart(node, 0))
				want[node] = true
				isUp(t, "some are restarted", w, want...)
			}
		}
	}
}

// TestLog: of each node its events, as the model makes them; of one that is off those that it had.
func TestLog(t *testing.T) {
	c := sized(32, 0)
	w := made(t, c, 1)
	var requests []api.Request
	for i, r := range story() {
		w.Step(call(0, r))
		rounds(w, 1, 12)
		requests = append(requests, with(r, id(0, uint32(i+1))))
	}
	var want []api.Event
	for i, a := range record.Answers(c.Staff, requests) {
		ev, _ := record.Event(32, uint32(i), requests[i], a)
		want = append(want, ev)
	}
	for _, node := range nodes {
		was := tellEvents(w.Log(node))
		if was != tellEvents(want) {
			t.Errorf("P18.2: the node %d has\n%s, want\n%s", node, was, tellEvents(want))
		}
		for _, s := range []world.Step{crash(node, 0), tick(node), restart(node, 0), crash(node, 1000)} {
			w.Step(s)
			if now := tellEvents(w.Log(node)); now != was {
				t.Errorf("P18.2: behind %s the node %d has\n%s, had\n%s", tellStep(s), node, now, was)
			}
		}
	}
}

// TestLogsApart: each node has what has come to it, and no more.
func TestLogsApart(t *testing.T) {
	w := made(t, sized(1, 0), 1)
	for range 3 {
		w.Step(call(0, creates()))
	}
	sends(t, w, deliver(3)) // the first request once more
	isLog(t, "one has come", w, 0, 1)
	sends(t, w, deliver(11)) // the third one ahead of the second
	sends(t, w, deliver(9))
	isLog(t, "all have come", w, 0, 1, 3, 2)
	isLog(t, "none is given", w, 1)
	sends(t, w, tick(0), 13)
	sends(t, w, deliver(13), 14)
	sends(t, w, deliver(14), 15)
	sends(t, w, deliver(15), 16)
	isLog(t, "one is given", w, 1, 1)
	sends(t, w, deliver(16), 17)
	sends(t, w, deliver(17), 18)
	isLog(t, "two are given", w, 1, 1, 3)
	isLog(t, "none has come to the tail", w, 2)
	sends(t, w, crash(1, 0))
	sends(t, w, deliver(18), 19)
	sends(t, w, deliver(19))
	isLog(t, "what comes to one that is off is lost", w, 1, 1, 3)
}

// TestNumbersRise: from 1 on, in the order in which messages come in; none comes again, whatever becomes of it.
func TestNumbersRise(t *testing.T) {
	w := made(t, sized(1, 0), 2)
	last := 0
	next := func(s world.Step, many int) {
		t.Helper()
		var want []int
		for range many {
			last++
			want = append(want, last)
		}
		does(t, w, s, told{sent: want})
	}
	next(call(0, creates()), 2)
	next(call(1, creates()), 2)
	isBag(t, "two have called", w, 1, 2, 3, 4)
	next(deliver(4), 0)
	next(call(1, creates()), 4)
	isBag(t, "the last one was delivered", w, 1, 2, 3, 5, 6, 7, 8)
	next(drop(8), 0)
	next(double(2), 1)
	isBag(t, "the last one was dropped, one doubled", w, 1, 2, 3, 5, 6, 7, 9)
	next(double(9), 1)
	next(deliver(10), 0)
	next(deliver(9), 0)
	next(retry(0), 2)
	isBag(t, "copies were delivered", w, 1, 2, 3, 5, 6, 7, 11, 12)
	for _, number := range w.Bag() {
		w.Step(drop(number))
	}
	isBag(t, "all were dropped", w)
	next(retry(0), 2)
	isBag(t, "behind all", w, 13, 14)
	for number := range 13 {
		isNoMessage(t, w, number)
	}
}

// TestMessages: what is under way is told, as often as it is asked; what is not, or no more, is none.
func TestMessages(t *testing.T) {
	w := standing(t, sized(2, 0), 3, story()...)
	r := creates(text("name", "Eve"), quantity("temp", 36.5, 11))
	x := w.Step(call(2, r))
	if len(x.Sent) != 2 {
		t.Fatalf("P18.3: Call: %s", tellSeen(x))
	}
	number := uint32(1 + len(w.Got(2)))
	for range 3 {
		isMessage(t, w, x.Sent[0], 12, 0, request(with(r, id(2, number))))
		isMessage(t, w, x.Sent[1], 12, 2, ask(id(2, number)))
	}
	for _, n := range append([]int{x.Sent[0] - 1, x.Sent[1] + 1}, noNumbers...) {
		isNoMessage(t, w, n)
	}
	y := w.Step(double(x.Sent[0]))
	isMessage(t, w, y.Sent[0], 12, 0, request(with(r, id(2, number))))
	w.Step(deliver(x.Sent[0]))
	isNoMessage(t, w, x.Sent[0])
	isMessage(t, w, y.Sent[0], 12, 0, request(with(r, id(2, number))))
	w.Step(drop(y.Sent[0]))
	isNoMessage(t, w, y.Sent[0])
	isBag(t, "one is left", w, x.Sent[1])
}

// TestMessagesOfAllKinds: each kind that there is has been under way, between whom it goes.
func TestMessagesOfAllKinds(t *testing.T) {
	w := made(t, sized(2, 0), 2)
	kinds := map[uint8][]int{}
	look := func() {
		for _, number := range w.Bag() {
			from, to, m, _ := w.Message(number)
			if !slices.Contains(kinds[m.Kind], 100*from+to) {
				kinds[m.Kind] = append(kinds[m.Kind], 100*from+to)
			}
		}
	}
	for client := range 2 {
		w.Step(call(client, creates()))
	}
	w.Step(fill(0, 1))
	for range 12 {
		for _, s := range []world.Step{tick(0), tick(1), tick(2), retry(0), retry(1)} {
			w.Step(s)
			look()
		}
		for _, number := range w.Bag() {
			w.Step(deliver(number))
			look()
		}
		w.Step(fill(0, 0))
	}
	for kind, want := range map[uint8][]int{
		api.MsgRequest: {1000, 1100},
		api.MsgAsk:     {1002, 1102},
		api.MsgAnswer:  {210, 211},
		api.MsgBusy:    {10, 11},
		api.MsgGive:    {1, 102},
		api.MsgHave:    {100, 201},
		api.MsgWhat:    {1, 102},
	} {
		if slices.Sort(kinds[kind]); !slices.Equal(kinds[kind], want) {
			t.Errorf("P18.2: the kind %d went %d, want %d", kind, kinds[kind], want)
		}
	}
}

// TestWaitingAndGotInTheOrderOfTheCalls: whichever answers come first.
func TestWaitingAndGotInTheOrderOfTheCalls(t *testing.T) {
	for _, order := range [][]uint32{{1, 2, 3, 4}, {4, 3, 2, 1}, {3, 1, 4, 2}, {2, 4, 1, 3}} {
		w := made(t, sized(1, 0), 2)
		for range 4 {
			w.Step(call(1, creates()))
		}
		for range 18 { // all is done; no answer is asked for
			for _, s := range []world.Step{tick(0), tick(1)} {
				w.Step(s)
			}
			for _, number := range w.Bag() {
				if _, _, m, _ := w.Message(number); m.Kind == api.MsgAsk {
					w.Step(drop(number))
				}
				w.Step(deliver(number))
			}
		}
		isLog(t, "all is done", w, 2, 1, 2, 3, 4)
		waits(t, "none is answered", w, 1, 1, 2, 3, 4)
		x := w.Step(retry(1)) // of each id one to the head, one to the tail
		var done []uint32
		for _, number := range order {
			y := w.Step(deliver(x.Sent[2*number-1]))
			answers(t, w, deliver(y.Sent[0]), created(id(1, number), number))
			done = append(done, number)
			slices.Sort(done)
			var left []uint32
			var have []api.Answer
			for n := uint32(1); n <= 4; n++ {
				if slices.Contains(done, n) {
					have = append(have, created(id(1, n), n))
				} else {
					left = append(left, n)
				}
			}
			waits(t, "some are answered", w, 1, left...)
			got(t, "some are answered", w, 1, have...)
			waits(t, "another client", w, 0)
			got(t, "another client", w, 0)
		}
	}
}

// TestManyUnderWay: each of many messages is told without going through all others.
func TestManyUnderWay(t *testing.T) {
	w := made(t, sized(1, 0), 1)
	many := 0
	for i := range 250 {
		w.Step(call(0, creates()))
		many += 2 * (i + 1)
	}
	bag := w.Bag()
	if len(bag) != many {
		t.Fatalf("P18.2: %d are under way, want %d", len(bag), many)
	}
	for i, number := range bag {
		if _, to, _, ok := w.Message(number); number != i+1 || to != 2*(i%2) || !ok {
			t.Fatalf("P18.2: the message %d at %d goes to %d, %v", number, i, to, ok)
		}
	}
}
