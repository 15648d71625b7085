package node_test

import (
	"fmt"
	"math/rand"
	"testing"

	"almoner/api"
	"almoner/disk"
	"almoner/node"
	"almoner/record"
)

// packet is a message under way.
type packet struct {
	from, to int
	m        api.Message
}

// chain is three nodes on their disks, the messages under way, and what was said to whom.
type chain struct {
	t        *testing.T
	c        api.Config
	disks    [3]*disk.Disk
	nodes    [3]*node.Node // what is off is nil
	bag      []packet
	called   []api.Request
	answered map[api.Id]api.Answer
	had      [3]int         // the greatest Have that each has sent
	gave     [3][]api.Event // what each has given
	heads    []api.Signed
}

func newChain(t *testing.T, c api.Config) *chain {
	x := &chain{t: t, c: c, answered: map[api.Id]api.Answer{}}
	for place := range x.nodes {
		x.nodes[place], x.disks[place] = fresh(t, c, place)
	}
	return x
}

// send puts what a node sends into the bag, and keeps what it says of its disk.
func (x *chain) send(from int, l []node.Out) {
	for _, o := range l {
		x.bag = append(x.bag, packet{from, o.To, o.Message})
		switch o.Message.Kind {
		case api.MsgHave:
			x.had[from] = max(x.had[from], int(o.Message.Length))
		case api.MsgGive:
			x.gave[from] = append(x.gave[from], o.Message.Event)
		}
	}
	if len(l) > 0 {
		x.isTrue(from)
	}
}

// isTrue asks for all that a node has ever sent to a neighbour: it is synced on its disk.
func (x *chain) isTrue(place int) {
	x.t.Helper()
	kept := durable(x.t, x.c, x.disks[place])
	if len(kept) < x.had[place] {
		x.t.Fatalf("P15.6: the node %d has said that it has %d events, and %d are synced", place, x.had[place], len(kept))
	}
	for _, ev := range x.gave[place] {
		if int64(ev.Place) >= int64(len(kept)) || fmt.Sprint(kept[ev.Place]) != fmt.Sprint(ev) {
			x.t.Fatalf("P15.6: the node %d has given %+v, which is not synced", place, ev)
		}
	}
}

// call is a client's: its request goes to the head, and it asks the tail.
func (x *chain) call(r api.Request) {
	x.called = append(x.called, r)
	x.retry(r)
}

func (x *chain) retry(r api.Request) {
	from := client(r.Id)
	x.bag = append(x.bag, packet{from, node.Head, request(r)}, packet{from, node.Tail, ask(r.Id)})
}

// deliver hands a message over; doubled, it stays under way.
func (x *chain) deliver(i int, doubled bool) {
	p := x.bag[i]
	if !doubled {
		x.bag = append(x.bag[:i:i], x.bag[i+1:]...)
	}
	if p.to >= node.Clients {
		x.answer(p)
		return
	}
	if n := x.nodes[p.to]; n != nil {
		x.send(p.to, n.Take(p.from, p.m))
		x.look(p.to)
	}
}

// answer is a client's that gets one: it has not had another.
func (x *chain) answer(p packet) {
	if p.m.Kind == api.MsgBusy {
		return
	}
	a := p.m.Answer
	if p.m.Kind != api.MsgAnswer || p.from != node.Tail || client(a.Id) != p.to {
		x.t.Fatalf("P15.3: the client at %d got %+v", p.to, p)
	}
	if first, again := x.answered[a.Id]; again && fmt.Sprint(first) != fmt.Sprint(a) {
		x.t.Fatalf("T1: two answers: %+v, %+v", first, a)
	}
	x.answered[a.Id] = a
}

// look sees whether a node has gone off.
func (x *chain) look(place int) {
	if x.disks[place].Off() {
		x.nodes[place] = nil
	}
}

func (x *chain) tick(place int) {
	if n := x.nodes[place]; n != nil {
		x.send(place, n.Tick())
	}
}

func (x *chain) crash(place, keep int) {
	x.disks[place].Crash(keep)
	x.nodes[place] = nil
}

func (x *chain) restart(place, keep int) {
	if x.nodes[place] != nil {
		return
	}
	x.disks[place].Crash(keep)
	x.disks[place].Start()
	x.nodes[place] = opened(x.t, x.c, place, x.disks[place])
	if x.nodes[place].Next() != -1 {
		x.t.Fatal("P15.1: Next behind Open")
	}
	x.isTrue(place)
}

// sign asks the tail for a head.
func (x *chain) sign() {
	if x.nodes[node.Tail] == nil {
		return
	}
	s, e := x.nodes[node.Tail].Head()
	x.look(node.Tail)
	if e != api.OK {
		return
	}
	for _, old := range x.heads {
		if old.Key == s.Key && fmt.Sprint(old) != fmt.Sprint(s) || old.Head.Size > s.Head.Size || old.Head.Size == s.Head.Size && fmt.Sprint(old) != fmt.Sprint(s) {
			x.t.Fatalf("T4: two heads: %v, %v", old, s)
		}
	}
	x.heads = append(x.heads, s)
}

// isChain asks that each log is a beginning of its predecessor's; what is off is not looked at.
func (x *chain) isChain() {
	x.t.Helper()
	var longer []api.Event
	for place, n := range x.nodes {
		if n == nil {
			continue
		}
		now := n.Events()
		if longer != nil && (len(now) > len(longer) || fmt.Sprint(now) != fmt.Sprint(longer[:len(now)])) {
			x.t.Fatalf("T2: the node %d has %v, one ahead of it %v", place, now, longer)
		}
		longer = now
	}
}

// step does something, by chance.
func (x *chain) step(r *rand.Rand) {
	place := r.Intn(3)
	switch r.Intn(30) {
	case 0, 1:
		if len(x.called) < 12 {
			q := anyRequest(r)
			for !record.Formed(q) {
				q = anyRequest(r)
			}
			q.Id = api.Id{Client: uint32(len(x.called) % 3), Number: uint32(len(x.called))}
			x.call(q)
		}
	case 2:
		x.crash(place, r.Intn(x.disks[place].Pending()+2))
	case 3, 4, 5:
		x.restart(place, r.Intn(200))
	case 6:
		x.disks[place].Arm(1, r.Intn(150))
	case 7:
		x.disks[place].Fill(r.Intn(3) == 0)
	case 8:
		x.sign()
	case 9:
		if len(x.called) > 0 {
			x.retry(x.called[r.Intn(len(x.called))])
		}
	case 10, 11, 12, 13:
		x.tick(place)
	default:
		if len(x.bag) > 0 {
			x.deliver(r.Intn(len(x.bag)), r.Intn(4) == 0)
		}
	}
}

// settle lets all come: the disks are whole, nothing is lost; then each client has its answer, and all logs are one.
func (x *chain) settle() {
	x.t.Helper()
	for place, d := range x.disks {
		d.Fill(false)
		x.restart(place, 0)
		d.Arm(1<<40, 0) // in the place of an armed one
	}
	for range 2*len(x.called) + 10 {
		for place := range x.nodes {
			x.tick(place)
		}
		for _, r := range x.called {
			x.retry(r)
		}
		for range len(x.bag) {
			x.deliver(0, false)
		}
	}
	x.isChain()
	events := x.nodes[node.Tail].Events()
	if len(events) != len(x.called) || len(x.answered) != len(x.called) {
		x.t.Fatalf("T1, T5: %d requests, %d events at the tail, %d answers", len(x.called), len(events), len(x.answered))
	}
	var l []api.Request
	for _, ev := range events {
		l = append(l, ev.Request)
	}
	for i, a := range record.Answers(x.c.Staff, l) {
		if fmt.Sprint(a) != fmt.Sprint(x.answered[a.Id]) {
			x.t.Fatalf("T1: the answer %+v, want %+v", x.answered[a.Id], l[i])
		}
	}
	for place, n := range x.nodes {
		if place != node.Tail && n.Next() != len(events) {
			x.t.Fatalf("P15.3: Next at %d is %d, of %d events", place, n.Next(), len(events))
		}
	}
}

// TestChain plays any scripts of three nodes: whatever is lost, doubled, late, whatever crashes, what was sent stays true, and in the end each request has its answer, once.
func TestChain(t *testing.T) {
	r := rand.New(rand.NewSource(1518))
	full, signed := 0, 0
	for i := range 80 {
		x := newChain(t, sized([]int{1, 2, 32}[i%3], 1))
		for range 200 {
			x.step(r)
			x.isChain()
		}
		x.settle()
		x.sign()
		if len(x.called) == 12 {
			full++
		}
		signed += len(x.heads)
	}
	if full < 20 || signed < 80 {
		t.Errorf("%d runs had all their requests, %d heads were signed: the scripts are too poor", full, signed)
	}
}
