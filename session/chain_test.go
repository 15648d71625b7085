package session_test

import (
	"bytes"
	"math/rand"
	"testing"

	"almoner/api"
	"almoner/disk"
	"almoner/node"
	"almoner/record"
	"almoner/session"
	"almoner/wire"
)

// people are the staff of chapter 10's examples.
var people = []api.Staff{
	{Actor: 1, Role: api.RoleClerk, Ward: 7},
	{Actor: 2, Role: api.RoleNurse, Ward: 7},
	{Actor: 3, Role: api.RoleDoctor, Ward: 7},
	{Actor: 4, Role: api.RoleDoctor, Ward: 8},
	{Actor: 5, Role: api.RoleAuditor},
	{Actor: 6, Role: api.RolePatient},
}

// parcel is a message's bytes under way.
type parcel struct {
	from, to int
	b        []byte
}

// chain is three nodes, some clients' sessions, and what is under way between them.
type chain struct {
	t        *testing.T
	c        api.Config
	nodes    [3]*node.Node
	sessions []*session.Session
	bag      []parcel
	called   map[api.Id]int
	busy     int
}

func newChain(t *testing.T, clients, room int) *chain {
	x := &chain{t: t, c: api.Config{Width: 2, Height: 0, Seed: []byte{1}, Staff: people, Segment: 8192, Disk: room}, called: map[api.Id]int{}}
	for place := range x.nodes {
		d, _ := disk.New(room)
		n, e := node.Open(x.c, place, d)
		if e != api.OK {
			t.Fatalf("node.Open: %d", e)
		}
		x.nodes[place] = n
	}
	for client := range clients {
		x.sessions = append(x.sessions, made(t, uint32(client)))
	}
	return x
}

// send puts a message under way.
func (x *chain) send(from, to int, m api.Message) {
	b, err := wire.PutMessage(m)
	if err != nil {
		x.t.Fatalf("T1: %s is sent: %v", tellMessage(m), err)
	}
	x.bag = append(x.bag, parcel{from, to, b})
}

func (x *chain) sendAll(from int, l []node.Out) {
	for _, o := range l {
		x.send(from, o.To, o.Message)
	}
}

// retry sends all that a client waits for.
func (x *chain) retry(client int) {
	head, tail := x.sessions[client].Out()
	for i := range head {
		x.send(node.Clients+client, node.Head, head[i])
		x.send(node.Clients+client, node.Tail, tail[i])
	}
}

// deliver hands over what is under way; doubled, it stays so.
func (x *chain) deliver(i int, doubled bool) {
	p := x.bag[i]
	if !doubled {
		x.bag = append(x.bag[:i:i], x.bag[i+1:]...)
	}
	m, err := wire.GetMessage(p.b)
	if err != nil {
		x.t.Fatal(err)
	}
	if p.to < node.Clients {
		x.sendAll(p.to, x.nodes[p.to].Take(p.from, m))
		return
	}
	if m.Kind == api.MsgBusy {
		x.busy++
	}
	takes(x.t, x.sessions[p.to-node.Clients], m, api.OK)
}

// isOnce asks for T1 of what the clients know.
func (x *chain) isOnce() {
	x.t.Helper()
	events := x.nodes[node.Tail].Events()
	var requests []api.Request
	times := map[api.Id]int{}
	for _, ev := range events {
		requests = append(requests, ev.Request)
		times[ev.Request.Id]++
		if times[ev.Request.Id] > 1 || x.called[ev.Request.Id] == 0 {
			x.t.Fatalf("T1: %v is in the log %d times, and was called %d times", ev.Request.Id, times[ev.Request.Id], x.called[ev.Request.Id])
		}
	}
	model := record.Answers(x.c.Staff, requests)
	acknowledged := 0
	for place, ev := range events {
		a, ok := x.sessions[ev.Request.Id.Client].Answer(ev.Request.Id)
		if !ok {
			continue
		}
		acknowledged++
		made, _ := record.Event(x.c.Width, uint32(place), ev.Request, a)
		if tellAnswer(a) != tellAnswer(model[place]) || a.Code != ev.Code || !bytes.Equal(made.Digest, ev.Digest) {
			x.t.Fatalf("T1: %v is answered %s, in the model %s", ev.Request.Id, tellAnswer(a), tellAnswer(model[place]))
		}
	}
	done := 0
	for _, s := range x.sessions {
		done += len(s.Done())
	}
	if done != acknowledged {
		x.t.Fatalf("T1: %d are acknowledged, of which %d are in the log", done, acknowledged)
	}
}

// anyCall lets a client call something, at times without a form.
func (x *chain) anyCall(r *rand.Rand) {
	q := api.Request{Actor: uint32(1 + r.Intn(7)), Op: uint8(r.Intn(9)), Record: uint32(r.Intn(4)), Version: uint32(r.Intn(2))}
	if q.Op == api.OpCreate {
		q = creates()
	}
	of, e := x.sessions[r.Intn(len(x.sessions))].Call(q)
	if (e == api.OK) != record.Formed(q) {
		x.t.Fatalf("P17.2: Call(%s): %d", tellRequest(q), e)
	}
	if e == api.OK {
		x.called[of]++
	}
}

// step is one of what may happen.
func (x *chain) step(r *rand.Rand) {
	switch k := r.Intn(10); {
	case k == 0:
		x.anyCall(r)
	case k == 1:
		x.retry(r.Intn(len(x.sessions)))
	case k == 2:
		place := r.Intn(3)
		x.sendAll(place, x.nodes[place].Tick())
	case len(x.bag) == 0:
	case k == 3:
		i := r.Intn(len(x.bag))
		x.bag = append(x.bag[:i:i], x.bag[i+1:]...)
	default:
		x.deliver(r.Intn(len(x.bag)), k == 4)
	}
}

// settle delivers all, round by round, till nobody waits.
func (x *chain) settle(rounds int) {
	for range rounds {
		for client := range x.sessions {
			x.retry(client)
		}
		for place := range x.nodes {
			x.sendAll(place, x.nodes[place].Tick())
		}
		for len(x.bag) > 0 {
			x.deliver(0, false)
		}
	}
}

// TestEachOnceThroughAChain: sessions before three nodes, with messages lost, doubled and in any order.
func TestEachOnceThroughAChain(t *testing.T) {
	r := rand.New(rand.NewSource(1001))
	answered := 0
	for range 20 {
		x := newChain(t, 3, 1<<16)
		for range 400 {
			x.step(r)
		}
		x.isOnce()
		x.settle(4)
		x.isOnce()
		for client, s := range x.sessions {
			waits(t, "T5: all is settled", s, nil)
			answered += len(x.sessions[client].Done())
		}
	}
	if answered < 300 {
		t.Errorf("only %d requests were answered", answered)
	}
}

// TestBusyIsNotAcknowledged: a disk is full, and what has no room in it waits on.
func TestBusyIsNotAcknowledged(t *testing.T) {
	x := newChain(t, 1, 8192)
	long := creates()
	long.Fields = many(api.MaxFields)
	for range 30 {
		of, _ := x.sessions[0].Call(long)
		x.called[of]++
	}
	x.settle(5)
	x.isOnce()
	s := x.sessions[0]
	done, left := len(s.Done()), s.Waiting()
	if done == 0 || len(left) == 0 || x.busy == 0 {
		t.Fatalf("T1: %d are answered, %d wait, %d refusals", done, len(left), x.busy)
	}
	for _, of := range left {
		isBusy(t, s, of, api.EFULL, 5)
		hasNoAnswer(t, s, of)
	}
}
