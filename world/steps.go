package world

import (
	"almoner/api"
	"almoner/node"
	"almoner/session"
	"almoner/wire"
)

// Play does steps, one after the other.
func (w *World) Play(l []Step) []Seen {
	var all []Seen
	for _, s := range l {
		all = append(all, w.Step(s))
	}
	return all
}

// Step does a step.
func (w *World) Step(s Step) Seen {
	if s.Op < Call || s.Op > Extend {
		return nothingBut(api.EARG)
	}
	do := w.steps()[s.Op]
	return do(s)
}

// steps tells how each Op is done.
func (w *World) steps() [Extend + 1]func(Step) Seen {
	return [Extend + 1]func(Step) Seen{
		Call:    w.call,
		Retry:   w.retry,
		Deliver: w.deliver,
		Double:  w.double,
		Drop:    w.drop,
		Tick:    w.tick,
		Arm:     w.arm,
		Crash:   w.crash,
		Restart: w.restart,
		Fill:    w.fill,
		Sign:    w.sign,
		Include: w.include,
		Extend:  w.extend,
	}
}

// nothingBut is what a step tells that was refused; or, with OK, one that was done and tells nothing.
func nothingBut(errno api.Errno) Seen { return Seen{E: errno} }

func (w *World) call(s Step) Seen {
	client, found := w.session(s.Client)
	if !found {
		return nothingBut(api.EARG)
	}
	if _, errno := client.Call(s.Request); errno != api.OK {
		return nothingBut(errno)
	}
	return w.retry(s)
}

func (w *World) retry(s Step) Seen {
	client, found := w.session(s.Client)
	if !found {
		return nothingBut(api.EARG)
	}
	var sent []int
	from := node.Clients + s.Client
	head, tail := client.Out()
	for i := range head { // both have one message for each id
		sent = append(sent, w.bag.send(from, node.Head, head[i]), w.bag.send(from, node.Tail, tail[i]))
	}
	return Seen{Sent: sent}
}

func (w *World) deliver(s Step) Seen {
	p, errno := w.bag.takeOut(s.Index)
	if errno != api.OK {
		return nothingBut(errno)
	}
	m, _ := wire.GetMessage(p.Bytes) // what is in the bag has a form
	if client, found := w.session(p.To - node.Clients); found {
		return Seen{Answers: hand(client, m)}
	}
	h := &w.hosts[p.To] // who is no client is a node
	out := h.node.Take(p.From, m)
	h.notice()
	return Seen{Sent: w.bag.sendAll(p.To, out)}
}

// hand lets a client have a message, and tells the answer that it has got by it: none, if it had that already, or if it is none.
func hand(client *session.Session, m api.Message) []api.Answer {
	_, had := client.Answer(m.Answer.Id)
	client.Take(m) // what it refuses is not for it, and turns nothing
	a, has := client.Answer(m.Answer.Id)
	if had || !has {
		return nil
	}
	return []api.Answer{a}
}

func (w *World) double(s Step) Seen {
	number, errno := w.bag.double(s.Index)
	if errno != api.OK {
		return nothingBut(errno)
	}
	return Seen{Sent: []int{number}}
}

func (w *World) drop(s Step) Seen { return nothingBut(w.bag.drop(s.Index)) }

// running tells where a node stands that is up; EARG, if there is no such node, EOFF, if it is off.
func (w *World) running(number int) (*host, api.Errno) {
	h, found := w.host(number)
	if !found {
		return nil, api.EARG
	}
	if !h.node.Up() {
		return nil, api.EOFF
	}
	return h, api.OK
}

func (w *World) tick(s Step) Seen {
	h, errno := w.running(s.Node)
	if errno != api.OK {
		return nothingBut(errno)
	}
	return Seen{Sent: w.bag.sendAll(s.Node, h.node.Tick())}
}

func (w *World) arm(s Step) Seen {
	h, errno := w.running(s.Node)
	if errno != api.OK {
		return nothingBut(errno)
	}
	return nothingBut(h.disk.Arm(s.Index, s.N))
}

func (w *World) crash(s Step) Seen {
	h, errno := w.running(s.Node)
	if errno != api.OK {
		return nothingBut(errno)
	}
	h.disk.Crash(s.N)
	h.notice()
	return Seen{}
}

func (w *World) restart(s Step) Seen {
	h, found := w.host(s.Node)
	if !found || h.node.Up() {
		return nothingBut(api.EARG)
	}
	h.disk.Crash(s.N)
	h.disk.Start()
	errno := h.open(w.config, s.Node)
	if errno != api.OK {
		h.disk.Crash(0) // it stays off; nothing is pending that this could take
	}
	return nothingBut(errno)
}

func (w *World) fill(s Step) Seen {
	h, found := w.host(s.Node)
	if !found {
		return nothingBut(api.EARG)
	}
	h.disk.Fill(s.N != 0)
	return Seen{}
}

func (w *World) sign(Step) Seen {
	h := &w.hosts[node.Tail]
	head, errno := h.node.Head()
	h.notice() // to bind a key is a write
	return told(head, errno, wire.PutSigned)
}

func (w *World) include(s Step) Seen {
	proof, errno := w.hosts[node.Tail].node.Inclusion(s.Index, s.N)
	return told(proof, errno, wire.PutProof)
}

func (w *World) extend(s Step) Seen {
	proof, errno := w.hosts[node.Tail].node.Consistency(s.Index, s.N)
	return told(proof, errno, wire.PutProof)
}

// told is what a step tells that asks the tail for a thing: its bytes.
func told[T any](thing T, errno api.Errno, put func(T) ([]byte, error)) Seen {
	if errno != api.OK {
		return nothingBut(errno)
	}
	b, _ := put(thing) // the tail tells nothing without a form
	return Seen{Bytes: b}
}
