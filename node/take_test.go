package node_test

import (
	"fmt"
	"math"
	"testing"

	"almoner/api"
	"almoner/node"
	"almoner/store"
)

// TestExamples is the chapter's table.
func TestExamples(t *testing.T) {
	c := examples()
	h, _ := fresh(t, c, node.Head)
	m, _ := fresh(t, c, node.Middle)
	l, _ := fresh(t, c, node.Tail)
	r := creates(0, 1)
	event := eventsOf(t, c, r)[0]
	sends(t, "P15.4: h.Tick", h.Tick(), out(1, what()))
	sends(t, "P15.4: m.Tick", m.Tick(), out(2, what()))
	sends(t, "P15.4: t.Tick", l.Tick())

	sends(t, "P15.3: What", m.Take(0, what()), out(0, have(0)))
	sends(t, "P15.3: Have 0", h.Take(1, have(0)))
	holds(t, "P15.3: Have 0", h, 0)

	sends(t, "P15.3: R", h.Take(10, request(r)))
	holds(t, "P15.3: R", h, 0, event)
	sends(t, "P15.3: R once more", h.Take(10, request(r)))
	sends(t, "P15.3: R from another client", h.Take(11, request(r)))
	holds(t, "P15.3: R three times", h, 0, event)

	sends(t, "P15.4: h.Tick", h.Tick(), out(1, give(event)))
	sends(t, "P15.3: Give", m.Take(0, give(event)), out(0, have(1)))
	sends(t, "P15.3: Have 1", h.Take(1, have(1)))
	holds(t, "P15.3: Have 1", h, 1, event)

	sends(t, "P15.3: Ask", l.Take(10, ask(r.Id)))
	sends(t, "P15.3: Have 0", m.Take(2, have(0)), out(2, give(event)))
	sends(t, "P15.3: Give", l.Take(1, give(event)), out(1, have(1)))
	sends(t, "P15.3: Ask", l.Take(10, ask(r.Id)), out(10, answer(api.Answer{Id: r.Id, Code: api.Done, Record: 1, Version: 1})))

	sends(t, "P15.3: Have 5", m.Take(2, have(5)))
	holds(t, "P15.3: Have 5", m, 0, event)
	sends(t, "P15.3: Give from the successor", m.Take(2, give(event)))
	if _, e := h.Head(); e != api.ENONE {
		t.Errorf("P15.5: h.Head: %d", e)
	}
	if l.Keys() != 4 {
		t.Errorf("P15.5: t.Keys: %d", l.Keys())
	}
	if s, e := l.Head(); e != api.OK || s.Head.Size != 1 {
		t.Errorf("P15.5: t.Head: %v, %d", s.Head, e)
	}
	if l.Keys() != 3 {
		t.Errorf("P15.5: t.Keys behind a Head: %d", l.Keys())
	}
}

// addresses are those of the nodes, of clients, and such as are none.
var addresses = []int{0, 1, 2, 10, 11, 12, 25, 26, -1, 3, 4, 5, 9, -10, -8, math.MinInt, math.MinInt + 10, math.MaxInt32, 1 << 32, 1<<32 + 1, 1<<32 + 10, 1<<32 + 11, 1<<32 + 12, math.MaxInt}

// TestWhoMayAskWhat: of all messages from all addresses, at all nodes, just the rows' are taken.
func TestWhoMayAskWhat(t *testing.T) {
	c := small()
	done := []api.Request{creates(1, 1), creates(1, 2)}
	fresh := creates(1, 3)
	events := eventsOf(t, c, append(done, fresh)...)
	first := api.Answer{Id: done[0].Id, Record: 1, Version: 1}
	messages := map[uint8]api.Message{
		0:              {},
		api.MsgRequest: request(fresh),
		api.MsgAsk:     ask(done[0].Id),
		api.MsgAnswer:  answer(first),
		api.MsgBusy:    busy(fresh.Id, api.EFULL),
		api.MsgGive:    give(events[2]),
		api.MsgHave:    have(1),
		api.MsgWhat:    what(),
		8:              {Kind: 8},
		9:              {Kind: 9, Length: 1, Id: done[0].Id, Request: fresh, Event: events[2]},
		134:            {Kind: 134, Length: 1}, // api.MsgHave, but for its highest bit
		255:            {Kind: 255},
	}
	type ask struct {
		place, from int
		kind        uint8
	}
	type told struct {
		sent   []node.Out
		next   int
		length int
	}
	rows := map[ask]told{
		{node.Head, 11, api.MsgRequest}: {nil, -1, 3},
		{node.Head, 1, api.MsgHave}:     {[]node.Out{out(1, give(events[1]))}, 1, 2},
		{node.Middle, 2, api.MsgHave}:   {[]node.Out{out(2, give(events[1]))}, 1, 2},
		{node.Middle, 0, api.MsgWhat}:   {[]node.Out{out(0, have(2))}, -1, 2},
		{node.Middle, 0, api.MsgGive}:   {[]node.Out{out(0, have(3))}, -1, 3},
		{node.Tail, 1, api.MsgWhat}:     {[]node.Out{out(1, have(2))}, -1, 2},
		{node.Tail, 1, api.MsgGive}:     {[]node.Out{out(1, have(3))}, -1, 3},
		{node.Tail, 11, api.MsgAsk}:     {[]node.Out{out(11, answer(first))}, -1, 2},
	}
	for _, place := range places {
		for _, from := range addresses {
			for kind, m := range messages {
				n, d := standing(t, c, place, done...)
				was := laid(d)
				want, ok := rows[ask{place, from, kind}]
				if !ok {
					want = told{nil, -1, 2}
				}
				why := fmt.Sprintf("P15.3: at %d, from %d, a message of kind %d", place, from, kind)
				sends(t, why, n.Take(from, m), want.sent...)
				holds(t, why, n, want.next, events[:want.length]...)
				if want.length == 2 && laid(d) != was {
					t.Errorf("%s: something is written", why)
				}
			}
		}
	}
}

// TestClientsOfAllNumbers: an id's client is at Clients and its number, however great that is.
func TestClientsOfAllNumbers(t *testing.T) {
	for _, number := range []uint32{0, 1, 15, 16, 17, 1 << 31, math.MaxUint32} {
		r := creates(number, 5)
		h, _ := fresh(t, small(), node.Head)
		l, _ := standing(t, small(), node.Tail, r)
		for _, from := range []int{int(number), 9 + int(number), 11 + int(number), 10 + int(int32(number)) - 1, 10 + int(number) + 1<<32} {
			sends(t, "P15.3: a request from another address", h.Take(from, request(r)))
			sends(t, "P15.3: an Ask from another address", l.Take(from, ask(r.Id)))
			holds(t, "P15.3: a request from another address", h, -1)
		}
		sends(t, "P15.3: a request", h.Take(10+int(number), request(r)))
		holds(t, "P15.3: a request", h, -1, eventsOf(t, small(), r)...)
		sends(t, "P15.3: an Ask", l.Take(10+int(number), ask(r.Id)), out(10+int(number), answer(api.Answer{Id: r.Id, Record: 1, Version: 1})))
	}
}

// TestWhatAMessageHasBeside is not looked at: the id of a request is its own, that of an Ask the message's.
func TestWhatAMessageHasBeside(t *testing.T) {
	c := small()
	r := creates(1, 1)
	events := eventsOf(t, c, r, creates(1, 2))
	beside := func(m api.Message) api.Message {
		full := api.Message{Kind: m.Kind, Request: creates(3, 9), Id: api.Id{Client: 4, Number: 8}, Answer: api.Answer{Code: 3, Record: 9}, Code: 7, Event: api.Event{Place: 77, Request: creates(5, 5)}, Length: 99}
		switch m.Kind {
		case api.MsgRequest:
			full.Request = m.Request
		case api.MsgAsk:
			full.Id = m.Id
		case api.MsgGive:
			full.Event = m.Event
		case api.MsgHave:
			full.Length = m.Length
		}
		return full
	}
	h, _ := fresh(t, c, node.Head)
	sends(t, "P15.3: a request", h.Take(11, beside(request(r))))
	holds(t, "P15.3: a request", h, -1, events[0])
	sends(t, "P15.3: Have", h.Take(1, beside(have(0))), out(1, give(events[0])))
	sends(t, "P15.3: a request without a form", h.Take(11, beside(request(api.Request{Id: api.Id{Client: 1, Number: 3}}))), out(11, busy(api.Id{Client: 1, Number: 3}, api.EARG)))
	l, _ := fresh(t, c, node.Tail)
	sends(t, "P15.3: What", l.Take(1, beside(what())), out(1, have(0)))
	sends(t, "P15.3: Give", l.Take(1, beside(give(events[0]))), out(1, have(1)))
	sends(t, "P15.3: Ask", l.Take(11, beside(ask(r.Id))), out(11, answer(api.Answer{Id: r.Id, Record: 1, Version: 1})))
}

// TestRequests: all of a story, refused ones too; each is done once, whatever else its second sending says.
func TestRequests(t *testing.T) {
	c := small()
	want := eventsOf(t, c, story()...)
	h, d := fresh(t, c, node.Head)
	for i, r := range story() {
		sends(t, "P15.3: a new request", h.Take(client(r.Id), request(r)))
		holds(t, "P15.3: a new request", h, -1, want[:i+1]...)
		was := laid(d)
		other := creates(r.Id.Client, r.Id.Number, text("a", "b"))
		for _, again := range []api.Request{r, other, {Id: r.Id}, {Id: r.Id, Op: 99}} {
			sends(t, "P15.3: an id whose event is there", h.Take(client(r.Id), request(again)))
		}
		d.Fill(true)
		sends(t, "P15.3: an id whose event is there, the disk being full", h.Take(client(r.Id), request(r)))
		d.Fill(false)
		if laid(d) != was {
			t.Error("P15.3: an id whose event is there: something is written")
		}
		holds(t, "P15.3: an id whose event is there", h, -1, want[:i+1]...)
	}
}

// TestBusy: what Do answers is told to the client, and nothing has happened.
func TestBusy(t *testing.T) {
	c := small()
	h, d := standing(t, c, node.Head, many(2)...)
	was := laid(d)
	long := api.Field{Name: "n", Kind: api.FieldText, Text: fmt.Sprintf("%065d", 1)}
	wrong := []api.Request{
		{Id: api.Id{Client: 2, Number: 1}},
		{Id: api.Id{Client: 2, Number: 2}, Op: 8},
		{Id: api.Id{Client: 2, Number: 3}, Op: api.OpRead, Ward: 1},
		creates(2, 4, long),
		creates(2, 5, text("b", ""), text("a", "")),
	}
	for _, r := range wrong {
		sends(t, "P15.3: no form", h.Take(12, request(r)), out(12, busy(r.Id, api.EARG)))
	}
	d.Fill(true)
	for range 2 {
		sends(t, "P15.3: a full disk", h.Take(15, request(creates(5, 7))), out(15, busy(api.Id{Client: 5, Number: 7}, api.EFULL)))
	}
	sends(t, "P15.3: a full disk, and no form", h.Take(12, request(wrong[0])), out(12, busy(wrong[0].Id, api.EARG)))
	if laid(d) != was {
		t.Error("P15.3: Busy, and something is written")
	}
	holds(t, "P15.3: Busy", h, -1, eventsOf(t, c, many(2)...)...)
	d.Fill(false)
	sends(t, "P15.3: room again", h.Take(15, request(creates(5, 7))))
	holds(t, "P15.3: room again", h, -1, eventsOf(t, c, append(many(2), creates(5, 7))...)...)
}

// TestBusyOnADiskOfFewBytes: the disk's limit, too.
func TestBusyOnADiskOfFewBytes(t *testing.T) {
	c := small()
	_, d := standing(t, c, node.Head, many(1)...)
	room := 2*d.Used() + d.Used()/2 // for two events, and not for a third one
	h := opened(t, c, node.Head, newDisk(t, room))
	for i, r := range many(4) {
		sent := h.Take(10, request(r))
		if i < 2 {
			sends(t, "P15.3: a request", sent)
		} else {
			sends(t, "P15.3: no room", sent, out(10, busy(r.Id, api.EFULL)))
		}
	}
	holds(t, "P15.3: no room", h, -1, eventsOf(t, c, many(2)...)...)
}

// TestHaves: all lengths behind all that was known.
func TestHaves(t *testing.T) {
	c := small()
	events := eventsOf(t, c, many(4)...)
	for _, place := range []int{node.Head, node.Middle} {
		for next := -1; next <= 4; next++ {
			for _, length := range []uint32{0, 1, 2, 3, 4, 5, 6, 1 << 31, math.MaxUint32} {
				n, _ := standing(t, c, place, many(4)...)
				if next >= 0 {
					n, _ = knowing(t, c, place, next, many(4)...)
				}
				why := fmt.Sprintf("P15.3: at %d of 4 events, Next %d, Have %d", place, next, length)
				sent := n.Take(place+1, api.Message{Kind: api.MsgHave, Length: length})
				switch {
				case length > 4 || int(length) <= next:
					sends(t, why, sent)
					holds(t, why, n, next, events...)
				case length == 4:
					sends(t, why, sent)
					holds(t, why, n, 4, events...)
				default:
					sends(t, why, sent, out(place+1, give(events[length])))
					holds(t, why, n, int(length), events...)
				}
			}
		}
	}
}

// TestHavesOfNoEvents: a node that has none.
func TestHavesOfNoEvents(t *testing.T) {
	for _, place := range []int{node.Head, node.Middle} {
		n, _ := fresh(t, small(), place)
		sends(t, "P15.3: Have 1", n.Take(place+1, have(1)))
		holds(t, "P15.3: Have 1", n, -1)
		sends(t, "P15.3: Have 0", n.Take(place+1, have(0)))
		holds(t, "P15.3: Have 0", n, 0)
	}
}

// TestWhats: the length as it is then.
func TestWhats(t *testing.T) {
	c := small()
	events := eventsOf(t, c, many(4)...)
	for _, place := range []int{node.Middle, node.Tail} {
		n, _ := fresh(t, c, place)
		for i, ev := range events {
			for range 2 {
				sends(t, "P15.3: What", n.Take(place-1, what()), out(place-1, have(i)))
			}
			n.Take(place-1, give(ev))
		}
		holds(t, "P15.3: What", n, -1, events...)
	}
}

// TestGives: of the place that comes next, and of others; right, and not.
func TestGives(t *testing.T) {
	c := small()
	events := eventsOf(t, c, story()...)
	for _, place := range []int{node.Middle, node.Tail} {
		n, d := fresh(t, c, place)
		for i, ev := range events {
			was := laid(d)
			for k, other := range events {
				if k != i {
					sends(t, fmt.Sprintf("P15.3: Give of %d to %d events", k, i), n.Take(place-1, give(other)), out(place-1, have(i)))
				}
			}
			for what, wrong := range wrongEvents(ev, events[(i+1)%len(events)]) {
				sends(t, "P15.3: Give of "+what, n.Take(place-1, give(wrong)), out(place-1, have(i)))
			}
			holds(t, "P15.3: Gives that are not to be taken", n, -1, events[:i]...)
			if laid(d) != was {
				t.Error("P15.3: Gives that are not to be taken: something is written")
			}
			sends(t, "P15.3: Give", n.Take(place-1, give(ev)), out(place-1, have(i+1)))
			holds(t, "P15.3: Give", n, -1, events[:i+1]...)
			if d.Pending() != 0 {
				t.Error("P15.6: an event that was taken is not synced")
			}
		}
	}
}

// wrongEvents are such as have an event's place, and are not right.
func wrongEvents(ev, other api.Event) map[string]api.Event {
	all := map[string]api.Event{}
	change := func(what string, how func(ev *api.Event)) {
		wrong := ev
		how(&wrong)
		all[what] = wrong
	}
	change("another code", func(ev *api.Event) { ev.Code = (ev.Code + 1) % 11 })
	change("no code", func(ev *api.Event) { ev.Code = 11 })
	change("another digest", func(ev *api.Event) { ev.Digest = []byte{ev.Digest[0], ev.Digest[1] ^ 1} })
	change("no digest", func(ev *api.Event) { ev.Digest = nil })
	change("a long digest", func(ev *api.Event) { ev.Digest = append([]byte{}, ev.Digest[0], ev.Digest[1], 0) })
	change("a request without a form", func(ev *api.Event) { ev.Request.Op = 0 })
	change("another request", func(ev *api.Event) { ev.Request = other.Request; ev.Request.Actor = 200; ev.Digest = []byte{0, 1} })
	change("nothing but its place", func(ev *api.Event) { *ev = api.Event{Place: ev.Place} })
	return all
}

// TestGivesOfAnIdThatIsThere: an event is not right if its id has one.
func TestGivesOfAnIdThatIsThere(t *testing.T) {
	c := small()
	r := creates(0, 1)
	n, _ := standing(t, c, node.Tail, r)
	again := creates(0, 2)
	ev := eventsOf(t, c, r, again)[1]
	ev.Request.Id = r.Id
	sends(t, "P15.3: Give of an id that is there", n.Take(node.Middle, give(ev)), out(node.Middle, have(1)))
	holds(t, "P15.3: Give of an id that is there", n, -1, eventsOf(t, c, r)...)
}

// TestGivesToAFullDisk: an error is nothing, and the Have comes all the same.
func TestGivesToAFullDisk(t *testing.T) {
	c := small()
	events := eventsOf(t, c, many(3)...)
	for _, place := range []int{node.Middle, node.Tail} {
		n, d := standing(t, c, place, many(2)...)
		d.Fill(true)
		for range 2 {
			sends(t, "P15.3: Give to a full disk", n.Take(place-1, give(events[2])), out(place-1, have(2)))
			holds(t, "P15.3: Give to a full disk", n, -1, events[:2]...)
		}
		d.Fill(false)
		sends(t, "P15.3: Give, and there is room again", n.Take(place-1, give(events[2])), out(place-1, have(3)))
		holds(t, "P15.3: Give, and there is room again", n, -1, events...)
	}
}

// TestAsks: each event's answer, at the tail; silence for other ids.
func TestAsks(t *testing.T) {
	c := small()
	l, d := fresh(t, c, node.Tail)
	s := told(t, c, newDisk(t, c.Disk), story()...)
	events := eventsOf(t, c, story()...)
	for i := range len(story()) + 1 {
		was := laid(d)
		for k, r := range story() {
			sent := l.Take(client(r.Id), ask(r.Id))
			if k >= i {
				sends(t, "P15.3: an Ask of an id without an event", sent)
				continue
			}
			a, _ := s.Answer(k)
			sends(t, "P15.3: an Ask", sent, out(client(r.Id), answer(a)))
			sends(t, "P15.3: an Ask of another number", l.Take(client(r.Id), ask(api.Id{Client: r.Id.Client, Number: r.Id.Number + 1000})))
			sends(t, "P15.3: an Ask by another client", l.Take(client(r.Id)+1, ask(r.Id)))
		}
		if laid(d) != was {
			t.Error("P15.3: an Ask has written something")
		}
		holds(t, "P15.3: Asks", l, -1, events[:i]...)
		if i < len(events) {
			l.Take(node.Middle, give(events[i]))
		}
	}
}

// TestTicks: at all three nodes, with all that is known of the successor.
func TestTicks(t *testing.T) {
	c := small()
	for length := range 4 {
		events := eventsOf(t, c, many(length)...)
		for _, place := range []int{node.Head, node.Middle} {
			n, _ := standing(t, c, place, many(length)...)
			for range 2 {
				sends(t, "P15.4: Tick, Next -1", n.Tick(), out(place+1, what()))
			}
			holds(t, "P15.4: Tick, Next -1", n, -1, events...)
			for next := range length + 1 {
				n, _ := knowing(t, c, place, next, many(length)...)
				for range 2 {
					if next == length {
						sends(t, "P15.4: Tick, Next is the length", n.Tick())
					} else {
						sends(t, "P15.4: Tick, Next below the length", n.Tick(), out(place+1, give(events[next])))
					}
				}
				holds(t, "P15.4: Tick", n, next, events...)
			}
		}
		n, d := standing(t, c, node.Tail, many(length)...)
		was := laid(d)
		sends(t, "P15.4: Tick at the tail", n.Tick())
		holds(t, "P15.4: Tick at the tail", n, -1, events...)
		if laid(d) != was {
			t.Error("P15.4: Tick has written something")
		}
	}
}

// TestTicksAsTheLogGrows: what comes in is given behind what was known.
func TestTicksAsTheLogGrows(t *testing.T) {
	c := small()
	h, _ := fresh(t, c, node.Head)
	h.Take(node.Middle, have(0))
	events := eventsOf(t, c, many(3)...)
	sends(t, "P15.4: nothing there", h.Tick())
	for i, r := range many(3) {
		sends(t, "P15.3: a request", h.Take(10, request(r)))
		sends(t, "P15.4: Tick", h.Tick(), out(1, give(events[0])))
		holds(t, "P15.4: Tick", h, 0, events[:i+1]...)
	}
	sends(t, "P15.3: Have 2", h.Take(1, have(2)), out(1, give(events[2])))
	sends(t, "P15.3: an old Have 1", h.Take(1, have(1)))
	sends(t, "P15.4: Tick", h.Tick(), out(1, give(events[2])))
}

// TestAtTheLimit: MaxEvents events are there, and no more come.
func TestAtTheLimit(t *testing.T) {
	c := small()
	c.Disk, c.Width = api.MaxDisk, 1
	d := newDisk(t, c.Disk)
	s := told(t, c, d, many(api.MaxEvents-1)...)
	last := creates(0, api.MaxEvents)
	h := opened(t, c, node.Head, d)
	sends(t, "P15.3: the last request", h.Take(10, request(last)))
	r := creates(0, api.MaxEvents+1)
	sends(t, "P15.3: one more", h.Take(10, request(r)), out(10, busy(r.Id, api.ELIMIT)))
	if h.Length() != api.MaxEvents {
		t.Fatalf("P15.3: %d events", h.Length())
	}
	if len(h.Events()) != api.MaxEvents {
		t.Errorf("P15.1: Events tells %d", len(h.Events()))
	}
	sends(t, "P15.3: Have of all", h.Take(1, have(api.MaxEvents)))
	if h.Next() != api.MaxEvents {
		t.Errorf("P15.3: Next is %d", h.Next())
	}
	l := filledTail(t, c, s)
	ev := h.Events()[api.MaxEvents-1]
	sends(t, "P15.3: Give of the last one", l.Take(1, give(ev)), out(1, have(api.MaxEvents)))
	ev.Place++
	ev.Request.Id.Number++
	sends(t, "P15.3: Give of one more", l.Take(1, give(ev)), out(1, have(api.MaxEvents)))
	if signed, e := l.Head(); e != api.OK || signed.Head.Size != api.MaxEvents {
		t.Errorf("P15.5: Head: %v, %d", signed.Head, e)
	}
}

// filledTail tells a tail that was given a store's events.
func filledTail(t *testing.T, c api.Config, s *store.Store) *node.Node {
	t.Helper()
	l, d := fresh(t, c, node.Tail)
	for place := range s.Len() {
		ev, _ := s.Event(place)
		l.Take(node.Middle, give(ev))
	}
	if l.Length() != s.Len() || d.Pending() != 0 {
		t.Fatalf("P15.3: behind %d Gives: %d events", s.Len(), l.Length())
	}
	return l
}
