package world_test

// The chapter's words, read plainly: what the package is held against.

import (
	"almoner/api"
	"almoner/disk"
	"almoner/lamport"
	"almoner/node"
	"almoner/session"
	"almoner/wire"
	"almoner/world"
)

// letter is a message under way.
type letter struct {
	number, from, to int
	m                api.Message
}

// plain is a world as the words say it: a list of messages, and of each node one that is opened, or none and the log that it had.
type plain struct {
	c       api.Config
	disks   [3]*disk.Disk
	nodes   [3]*node.Node
	logs    [3][]api.Event
	clients []*session.Session
	bag     []letter
	last    int
}

func newPlain(c api.Config, clients int) *plain {
	p := &plain{c: c}
	for place := range p.nodes {
		p.disks[place], _ = disk.New(c.Disk)
		p.nodes[place], _ = node.Open(c, place, p.disks[place])
	}
	for client := range clients {
		s, _ := session.New(uint32(client))
		p.clients = append(p.clients, s)
	}
	return p
}

func (p *plain) isNode(n int) bool   { return n == 0 || n == 1 || n == 2 }
func (p *plain) isClient(n int) bool { return n >= 0 && n < len(p.clients) }

func (p *plain) Up(n int) bool { return p.isNode(n) && p.nodes[n] != nil }

func (p *plain) Log(n int) []api.Event {
	if p.Up(n) {
		return p.nodes[n].Events()
	}
	if p.isNode(n) {
		return p.logs[n]
	}
	return nil
}

func (p *plain) Bag() []int {
	var l []int
	for _, x := range p.bag {
		l = append(l, x.number)
	}
	return l
}

// find tells where in the bag a message is, or -1.
func (p *plain) find(number int) int {
	for i, x := range p.bag {
		if x.number == number {
			return i
		}
	}
	return -1
}

func (p *plain) Message(number int) (from, to int, m api.Message, ok bool) {
	i := p.find(number)
	if i < 0 {
		return 0, 0, api.Message{}, false
	}
	x := p.bag[i]
	return x.from, x.to, x.m, true
}

func (p *plain) Waiting(client int) []api.Id {
	var l []api.Id
	for n := uint32(1); p.isClient(client) && int(n) <= p.called(client); n++ {
		if _, ok := p.clients[client].Answer(id(client, n)); !ok {
			l = append(l, id(client, n))
		}
	}
	return l
}

func (p *plain) Got(client int) []api.Answer {
	var l []api.Answer
	for n := uint32(1); p.isClient(client) && int(n) <= p.called(client); n++ {
		if a, ok := p.clients[client].Answer(id(client, n)); ok {
			l = append(l, a)
		}
	}
	return l
}

func (p *plain) called(client int) int {
	return len(p.clients[client].Waiting()) + len(p.clients[client].Done())
}

func (p *plain) Public() []byte {
	keys, _ := lamport.New(p.c.Width, p.c.Height, p.c.Seed)
	return keys.Public()
}

func (p *plain) Disk(n int) *disk.Disk { return p.disks[n] }

// send puts a message into the bag.
func (p *plain) send(x *world.Seen, from, to int, m api.Message) {
	p.last++
	p.bag = append(p.bag, letter{p.last, from, to, m})
	x.Sent = append(x.Sent, p.last)
}

func (p *plain) sendAll(x *world.Seen, from int, l []node.Out) {
	for _, o := range l {
		p.send(x, from, o.To, o.Message)
	}
}

// look sees whether a node has gone off.
func (p *plain) look(n int) {
	if p.nodes[n] != nil && p.disks[n].Off() {
		p.logs[n], p.nodes[n] = p.nodes[n].Events(), nil
	}
}

// step is the table, row by row.
func (p *plain) step(s world.Step) (x world.Seen) {
	at := p.find(s.Index)
	refuse := func(e api.Errno) world.Seen { return world.Seen{E: e} }
	switch s.Op {
	case world.Call, world.Retry:
		if !p.isClient(s.Client) {
			return refuse(api.EARG)
		}
		c := p.clients[s.Client]
		if s.Op == world.Call {
			if _, e := c.Call(s.Request); e != api.OK {
				return refuse(e)
			}
		}
		head, tail := c.Out()
		for i := range head {
			p.send(&x, 10+s.Client, 0, head[i])
			p.send(&x, 10+s.Client, 2, tail[i])
		}
	case world.Deliver, world.Double, world.Drop:
		if at < 0 {
			return refuse(api.ENONE)
		}
		l := p.bag[at]
		if s.Op == world.Double {
			p.send(&x, l.from, l.to, l.m)
			return x
		}
		p.bag = append(p.bag[:at:at], p.bag[at+1:]...)
		if s.Op == world.Deliver {
			p.deliver(&x, l)
		}
	case world.Sign, world.Include, world.Extend:
		return p.ask(s)
	default:
		return p.stepOfNode(s)
	}
	return x
}

func (p *plain) deliver(x *world.Seen, l letter) {
	switch {
	case l.to >= 10:
		c := p.clients[l.to-10]
		many := len(c.Done())
		c.Take(l.m)
		for _, of := range c.Done()[many:] {
			a, _ := c.Answer(of)
			x.Answers = append(x.Answers, a)
		}
	case p.nodes[l.to] != nil:
		out := p.nodes[l.to].Take(l.from, l.m)
		p.look(l.to)
		p.sendAll(x, l.to, out)
	}
}

// ask is the steps that ask the tail.
func (p *plain) ask(s world.Step) (x world.Seen) {
	if p.nodes[2] == nil {
		return world.Seen{E: api.EOFF}
	}
	var proof api.Proof
	switch s.Op {
	case world.Sign:
		var head api.Signed
		head, x.E = p.nodes[2].Head()
		p.look(2)
		if x.E == api.OK {
			x.Bytes, _ = wire.PutSigned(head)
		}
		return x
	case world.Include:
		proof, x.E = p.nodes[2].Inclusion(s.Index, s.N)
	case world.Extend:
		proof, x.E = p.nodes[2].Consistency(s.Index, s.N)
	}
	if x.E == api.OK {
		x.Bytes, _ = wire.PutProof(proof)
	}
	return x
}

// stepOfNode is the steps that name a node, and those that there are not.
func (p *plain) stepOfNode(s world.Step) (x world.Seen) {
	known := s.Op >= world.Tick && s.Op <= world.Fill
	if !known || !p.isNode(s.Node) {
		return world.Seen{E: api.EARG}
	}
	d, isUp := p.disks[s.Node], p.nodes[s.Node] != nil
	if !isUp && (s.Op == world.Tick || s.Op == world.Arm || s.Op == world.Crash) {
		return world.Seen{E: api.EOFF}
	}
	switch s.Op {
	case world.Tick:
		p.sendAll(&x, s.Node, p.nodes[s.Node].Tick())
	case world.Arm:
		x.E = d.Arm(s.Index, s.N)
	case world.Crash:
		d.Crash(max(s.N, 0))
		p.look(s.Node)
	case world.Restart:
		if isUp {
			return world.Seen{E: api.EARG}
		}
		d.Crash(s.N)
		d.Start()
		p.nodes[s.Node], x.E = node.Open(p.c, s.Node, d)
	case world.Fill:
		d.Fill(s.N != 0)
	}
	return x
}
