package node_test

import (
	"bytes"
	"fmt"
	"runtime"
	"slices"
	"strings"
	"testing"

	"almoner/api"
	"almoner/disk"
	"almoner/node"
)

const roomBehind = 40

// roomy tells a copy of a list with spare room that is not empty.
func roomy[T any](l []T, spare T) []T {
	all := append(slices.Clone(l), slices.Repeat([]T{spare}, roomBehind)...)
	return all[:len(l)]
}

// isAsHanded tells whether a list of roomy's is as it was, its spare room too.
func isAsHanded[T comparable](l, was []T, spare T) bool {
	n := len(was) + roomBehind
	return slices.Equal(l[:n], roomy(was, spare)[:n])
}

// scribble writes over a list and its spare room.
func scribble[T any](l []T, v T) {
	l = l[:cap(l)]
	for i := range l {
		l[i] = v
	}
}

var (
	spareField   = api.Field{Name: "spare", Kind: 9, Text: "spare", Value: 9, Unit: 9}
	spareSummary = api.Summary{Author: 99, Event: 99, Fields: 99, Redacted: true}
	sparePerson  = api.Staff{Actor: 9, Role: api.RoleDoctor, Ward: 7}
)

// spoilEvent, spoilMessage and spoilHashes write over all lists in what they are handed.
func spoilEvent(ev api.Event) {
	scribble(ev.Request.Fields, spareField)
	scribble(ev.Digest, 77)
}

func spoilMessage(m api.Message) {
	scribble(m.Request.Fields, spareField)
	scribble(m.Answer.Fields, spareField)
	scribble(m.Answer.History, spareSummary)
	spoilEvent(m.Event)
}

func spoilHashes(l [][]byte) {
	for _, h := range l {
		scribble(h, 77)
	}
	scribble(l, nil)
}

// spoilSent writes over all that was sent.
func spoilSent(l []node.Out) {
	for _, o := range l {
		spoilMessage(o.Message)
	}
	scribble(l, node.Out{To: 99})
}

// TestWhatIsHandedToOpen is not changed, and not kept: a node whose Config was written over goes on as before.
func TestWhatIsHandedToOpen(t *testing.T) {
	for _, place := range places {
		c := sized(2, 2)
		c.Staff, c.Seed = roomy(people, sparePerson), roomy([]byte{1}, 9)
		n, d := fresh(t, c, place)
		if !isAsHanded(c.Staff, people, sparePerson) || !isAsHanded(c.Seed, []byte{1}, 9) {
			t.Error("R4: Open changes a list of the Config")
		}
		scribble(c.Staff, api.Staff{})
		scribble(c.Seed, 0)
		want, other := fresh(t, sized(2, 2), place)
		events := eventsOf(t, sized(2, 2), story()...)
		for i, r := range story() {
			for _, x := range []struct {
				n *node.Node
				d *disk.Disk
			}{{n, d}, {want, other}} {
				x.d.Fill(i%2 == 0) // so that the model is made anew
				x.n.Take(client(r.Id), request(r))
				x.n.Take(place-1, give(events[i]))
				x.d.Fill(false)
				x.n.Take(client(r.Id), request(r))
				x.n.Take(place-1, give(events[i]))
			}
			s, e := n.Head()
			u, f := want.Head()
			if fmt.Sprint(s, e) != fmt.Sprint(u, f) {
				t.Fatal("R4: a Config that is written over changes a node's head")
			}
		}
		if seen(n) != seen(want) || n.Length() != len(story()) {
			t.Errorf("R4: a Config that is written over changes a node:\n%s", seen(n))
		}
	}
}

// roomyMessage tells a message with all the lists that there are, each with spare room.
func roomyMessage(m api.Message) api.Message {
	m.Request.Fields = roomy(m.Request.Fields, spareField)
	m.Answer.Fields = roomy(m.Answer.Fields, spareField)
	m.Answer.History = roomy(m.Answer.History, spareSummary)
	m.Event.Request.Fields = roomy(m.Event.Request.Fields, spareField)
	m.Event.Digest = roomy(m.Event.Digest, 77)
	return m
}

func isMessageAsHanded(m, was api.Message) bool {
	return isAsHanded(m.Request.Fields, was.Request.Fields, spareField) &&
		isAsHanded(m.Answer.Fields, was.Answer.Fields, spareField) &&
		isAsHanded(m.Answer.History, was.Answer.History, spareSummary) &&
		isAsHanded(m.Event.Request.Fields, was.Event.Request.Fields, spareField) &&
		isAsHanded(m.Event.Digest, was.Event.Digest, 77)
}

// TestWhatIsHandedToTake is not changed, and not kept.
func TestWhatIsHandedToTake(t *testing.T) {
	c := small()
	events := eventsOf(t, c, story()...)
	for _, place := range places {
		n, _ := fresh(t, c, place)
		for i, r := range story() {
			wrong := events[i]
			wrong.Code++
			for _, p := range []packet{
				{place - 1, 0, give(wrong)},
				{place - 1, 0, give(events[i])},
				{client(r.Id), 0, request(r)},
				{client(r.Id), 0, api.Message{Kind: api.MsgAnswer, Answer: api.Answer{Fields: r.Fields, History: []api.Summary{{Author: 1}}}}},
				{client(r.Id), 0, ask(r.Id)},
				{place + 1, 0, have(i)},
				{place - 1, 0, what()},
			} {
				m := roomyMessage(p.m)
				sent := n.Take(p.from, m)
				if !isMessageAsHanded(m, p.m) {
					t.Errorf("R4: Take changes a list of %+v", p.m)
				}
				spoilMessage(m)
				for _, o := range sent {
					if text := fmt.Sprintf("%+v", o); strings.Contains(text, "spare") || strings.Contains(text, "77 77") {
						t.Errorf("R4: what is sent is what was handed in: %s", text)
					}
				}
			}
		}
		if got := n.Events(); fmt.Sprintf("%+v", got) != fmt.Sprintf("%+v", events) {
			t.Errorf("R4: at %d: what was handed in is kept: %+v", place, got)
		}
	}
}

// TestWhatIsAnsweredIsNew writes over all that a node answers, and asks again.
func TestWhatIsAnsweredIsNew(t *testing.T) {
	c := sized(2, 2)
	size := len(story())
	for _, place := range places {
		n, d := standing(t, c, place, story()...)
		u, _ := standing(t, c, place, story()...)
		was, lies := seen(n), laid(d)
		for i, r := range story() {
			for _, p := range []packet{{place + 1, 0, have(i)}, {place - 1, 0, what()}, {client(r.Id), 0, ask(r.Id)}, {client(r.Id), 0, request(api.Request{Id: api.Id{Client: r.Id.Client, Number: 999}})}} {
				want := u.Take(p.from, p.m)
				spoilSent(n.Take(p.from, p.m))
				if p.m.Kind == api.MsgAsk {
					sends(t, "R4: an Ask once more", n.Take(p.from, p.m), want...)
				}
			}
			spoilSent(n.Tick())
			sends(t, "R4: Tick once more", n.Tick(), u.Tick()...)
			path, _ := n.Inclusion(i, size)
			spoilHashes(path.Hashes)
			proof, _ := n.Consistency(i, size)
			spoilHashes(proof.Hashes)
		}
		for _, ev := range n.Events() {
			spoilEvent(ev)
		}
		scribble(n.Events(), api.Event{})
		if place != node.Tail {
			was = strings.Replace(was, "next -1", "next 10", 1)
		}
		if seen(n) != was || laid(d) != lies {
			t.Errorf("R4: at %d: who writes over what is told changes the node: it was\n%s\nand is\n%s", place, was, seen(n))
		}
		s, _ := n.Head()
		scribble(s.Head.Root, 77)
		scribble(s.Signature, 77)
		again, e := n.Head()
		want, f := u.Head()
		if fmt.Sprint(again, e) != fmt.Sprint(want, f) {
			t.Error("R4: who writes over a head changes the node")
		}
	}
}

// TestNoTwoListsShare: the lists of one answer have memory of their own.
func TestNoTwoListsShare(t *testing.T) {
	c := small()
	n, _ := standing(t, c, node.Tail, story()...)
	want := n.Events()
	for i := range want {
		l := n.Events()
		spoilEvent(l[i])
		for k := range l {
			if k != i && fmt.Sprint(l[k]) != fmt.Sprint(want[k]) {
				t.Fatalf("R4: the events %d and %d share memory", i, k)
			}
		}
		l = n.Events()
		scribble(l[i].Digest, 77)
		if fmt.Sprint(l[i].Request) != fmt.Sprint(want[i].Request) {
			t.Fatalf("R4: the lists of the event %d share memory", i)
		}
	}
	size := n.Length()
	for a := range size {
		for _, ask := range []func() (api.Proof, api.Errno){
			func() (api.Proof, api.Errno) { return n.Inclusion(a, size) },
			func() (api.Proof, api.Errno) { return n.Consistency(a, size) },
		} {
			first, _ := ask()
			for i := range first.Hashes {
				p, _ := ask()
				scribble(p.Hashes[i], 77)
				for k := range p.Hashes {
					if k != i && !bytes.Equal(p.Hashes[k], first.Hashes[k]) {
						t.Fatal("R4: two hashes of one proof share memory")
					}
				}
			}
		}
	}
}

// TestWhatWasToldStays: what was sent and told is not changed by what comes later.
func TestWhatWasToldStays(t *testing.T) {
	c := small()
	h, d := fresh(t, c, node.Head)
	h.Take(node.Middle, have(0))
	var kept [][]node.Out
	var events [][]api.Event
	var texts []string
	for i, r := range story() {
		h.Take(client(r.Id), request(r))
		kept = append(kept, h.Tick())
		kept = append(kept, h.Take(node.Middle, have(i)))
		events = append(events, h.Events())
		texts = append(texts, fmt.Sprint(kept[2*i], kept[2*i+1], events[i]))
	}
	d.Turn("log.0", 40, 1)
	for i, was := range texts {
		if fmt.Sprint(kept[2*i], kept[2*i+1], events[i]) != was {
			t.Errorf("R4: what was told behind the request %d has changed", i)
		}
	}
}

// heap tells how many bytes are in use.
func heap() uint64 {
	var m runtime.MemStats
	runtime.GC()
	runtime.ReadMemStats(&m)
	return m.HeapAlloc
}

// TestLongTextsAreNotKept: of a text that is a piece of a longer one the piece alone is kept; of messages that are not taken nothing.
func TestLongTextsAreNotKept(t *testing.T) {
	c := small()
	h, _ := fresh(t, c, node.Head)
	m, _ := fresh(t, c, node.Middle)
	was := heap()
	for i := range uint32(48) {
		whole := strings.Repeat("p", 1<<20)
		r := creates(0, i, text("a", whole[:20]), text(whole[20:30], ""))
		h.Take(10, request(r))
		ev := h.Events()[i]
		ev.Request = r
		m.Take(node.Head, give(ev))
		m.Take(10, request(r))
		h.Take(node.Middle, api.Message{Kind: api.MsgHave, Length: i, Answer: api.Answer{Fields: make([]api.Field, 1<<14)}})
		h.Take(node.Middle, give(ev))
	}
	if h.Length() != 48 || m.Length() != 48 {
		t.Fatalf("P15.3: %d and %d events, want 48", h.Length(), m.Length())
	}
	if now := heap(); now > was+8<<20 {
		t.Errorf("language rule 8: %d bytes are kept of 48 texts of 2^20", now-was)
	}
	runtime.KeepAlive(h)
	runtime.KeepAlive(m)
}

// TestTwoNodesHaveNothingInCommon: what one goes through is not seen in another one, of the same place or of another.
func TestTwoNodesHaveNothingInCommon(t *testing.T) {
	c := small()
	events := eventsOf(t, c, many(3)...)
	for _, place := range places {
		for _, other := range places {
			n, _ := standing(t, c, place, many(1)...)
			was := seen(n)
			u, d := standing(t, c, other, many(1)...)
			for i := range 3 {
				u.Take(10, request(events[i].Request))
				u.Take(other-1, give(events[i]))
				u.Take(other+1, have(i))
				u.Tick()
				u.Head()
			}
			if u.Length() != 3 {
				t.Fatalf("P15.3: at %d: %d events", other, u.Length())
			}
			d.Crash(0)
			if seen(n) != was {
				t.Errorf("R5: what a node at %d does is seen in one at %d", other, place)
			}
			if place != node.Tail {
				sends(t, "R5: the other's disk is off", n.Tick(), out(place+1, what()))
			} else {
				signs(t, "the other's disk is off", c, n, 0)
			}
		}
	}
}
