package node_test

import (
	"fmt"
	"testing"

	"almoner/api"
	"almoner/disk"
	"almoner/node"
)

// allMessages are some of each kind, such among them as each node does something for, behind two events.
func allMessages(events []api.Event, next api.Request) []api.Message {
	l := []api.Message{request(next), ask(events[0].Request.Id), answer(api.Answer{}), busy(next.Id, api.EFULL), give(events[2]), what(), {}, {Kind: 8}}
	for length := range 4 {
		l = append(l, have(length))
	}
	return l
}

// isSilent asks for a node that does nothing, and sends nothing, whoever asks it.
func isSilent(t *testing.T, why string, n *node.Node, d *disk.Disk, messages []api.Message) {
	t.Helper()
	was, lay := seen(n), laid(d)
	for _, from := range addresses {
		for _, m := range messages {
			sends(t, fmt.Sprintf("P15.2: %s: from %d, kind %d", why, from, m.Kind), n.Take(from, m))
		}
		sends(t, "P15.2: "+why+": Tick", n.Tick())
	}
	if now := seen(n); now != was {
		t.Fatalf("P15.2: %s: it was\n%s\nand is\n%s", why, was, now)
	}
	if laid(d) != lay {
		t.Fatalf("P15.2: %s: something has come onto the disk", why)
	}
}

func TestOff(t *testing.T) {
	c := small()
	events := eventsOf(t, c, many(3)...)
	for _, place := range places {
		for next := -1; next <= 2; next++ {
			n, d := standing(t, c, place, many(2)...)
			n.Take(place+1, have(next))
			d.Crash(0)
			isSilent(t, "off", n, d, allMessages(events, creates(0, 3)))
		}
	}
}

// torn is a write that a node comes to: the store's, in Do or in Take.
type torn struct {
	place, from int
	message     api.Message
}

func tears(events []api.Event) []torn {
	return []torn{
		{node.Head, 10, request(events[2].Request)},
		{node.Middle, node.Head, give(events[2])},
		{node.Tail, node.Middle, give(events[2])},
	}
}

// TestGoesOffInACall tears the write of an event at each byte; then nothing is sent, and what lies on the disk is told by opening it again.
func TestGoesOffInACall(t *testing.T) {
	c := small()
	events := eventsOf(t, c, many(3)...)
	for _, x := range tears(events) {
		_, whole := standing(t, c, x.place, many(3)...)
		_, part := standing(t, c, x.place, many(2)...)
		frame := whole.Used() - part.Used()
		for written := range frame + 2 {
			n, d := standing(t, c, x.place, many(2)...)
			n.Take(x.place+1, have(1))
			next := n.Next()
			d.Arm(1, written)
			why := fmt.Sprintf("at %d, a write torn behind %d bytes", x.place, written)
			sends(t, "P15.2: "+why, n.Take(x.from, x.message))
			if !d.Off() {
				t.Fatalf("%s: the disk is on", why)
			}
			holds(t, "P15.2: "+why, n, next, events[:2]...)
			isSilent(t, why, n, d, allMessages(events, creates(0, 3)))

			keep := written * 7 % (frame + 1)
			d.Crash(keep)
			d.Start()
			left := 2
			if min(keep, written) >= frame {
				left = 3
			}
			n = opened(t, c, x.place, d)
			holds(t, "P15.1: "+why+", opened again", n, -1, events[:left]...)
			n.Take(x.from, x.message)
			holds(t, "P15.3: "+why+", and the message once more", n, -1, events...)
		}
	}
}

// TestTheDiskIsOnAgain, and the node is not opened anew: it tells what it had, and its store takes nothing more.
func TestTheDiskIsOnAgain(t *testing.T) {
	c := small()
	events := eventsOf(t, c, many(3)...)
	for _, x := range tears(events) {
		n, d := standing(t, c, x.place, many(2)...)
		d.Arm(1, 20)
		n.Take(x.from, x.message)
		d.Start()
		want := []node.Out{out(x.place-1, have(2))}
		if x.place == node.Head {
			want = []node.Out{out(10, busy(events[2].Request.Id, api.EOFF))}
		}
		sends(t, "P15.3: a store that is cut off", n.Take(x.from, x.message), want...)
		holds(t, "P12.4: a store that is cut off", n, -1, events[:2]...)
		if x.place != node.Tail {
			sends(t, "P15.4: Tick of a store that is cut off", n.Tick(), out(x.place+1, what()))
			sends(t, "P15.3: Have 1", n.Take(x.place+1, have(1)), out(x.place+1, give(events[1])))
		}
	}
}

// TestAnArmedWriteThatDoesNotCome: what does not write does not tear.
func TestAnArmedWriteThatDoesNotCome(t *testing.T) {
	c := small()
	events := eventsOf(t, c, many(3)...)
	h, d := standing(t, c, node.Head, many(2)...)
	d.Arm(1, 0)
	sends(t, "P15.4: Tick", h.Tick(), out(1, what()))
	sends(t, "P15.3: an id whose event is there", h.Take(10, request(events[0].Request)))
	sends(t, "P15.3: no form", h.Take(10, request(api.Request{})), out(10, busy(api.Id{}, api.EARG)))
	sends(t, "P15.3: Have", h.Take(1, have(1)), out(1, give(events[1])))
	l, d := standing(t, c, node.Tail, many(2)...)
	d.Arm(1, 0)
	sends(t, "P15.3: a Give of an event that is there", l.Take(1, give(events[1])), out(1, have(2)))
	sends(t, "P15.3: What", l.Take(1, what()), out(1, have(2)))
	sends(t, "P15.3: Ask", l.Take(10, ask(events[0].Request.Id)), out(10, answer(api.Answer{Id: events[0].Request.Id, Record: 1, Version: 1})))
	sends(t, "P15.2: Give", l.Take(1, give(events[2])))
	sends(t, "P15.2: What", l.Take(1, what()))
}
