package node

import "almoner/api"

// Take takes a message, and tells what is sent.
func (n *Node) Take(from int, m api.Message) []Out {
	if n.disk.Off() {
		return nil
	}
	sent := n.handle(from, m)
	if n.disk.Off() { // since a write was torn: what lies there is only told by opening it again
		return nil
	}
	return sent
}

// handle does what a message asks for, if it is for such a node, and from whom it may come; and tells what is sent.
func (n *Node) handle(from int, m api.Message) []Out {
	switch {
	case m.Kind == api.MsgRequest && n.place == Head && isClient(from, m.Request.Id):
		return n.do(from, m.Request)
	case m.Kind == api.MsgHave && n.isSuccessor(from):
		return n.hear(m.Length)
	case m.Kind == api.MsgGive && n.isPredecessor(from):
		n.Store.Take(m.Event) // it refuses what is not the next event, or is not right: the Have says how far it has come
		fallthrough
	case m.Kind == api.MsgWhat && n.isPredecessor(from):
		return n.have()
	case m.Kind == api.MsgAsk && n.place == Tail && isClient(from, m.Id):
		return n.answer(from, m.Id)
	}
	return nil
}

// isClient tells whether an address is that of an id's client.
func isClient(from int, id api.Id) bool {
	return from >= Clients && uint64(from-Clients) == uint64(id.Client)
}

func (n *Node) isSuccessor(from int) bool { return n.place != Tail && from == n.place+1 }

func (n *Node) isPredecessor(from int) bool { return n.place != Head && from == n.place-1 }

// do does a client's request, if none of its id was done, and tells the client if that can't be.
func (n *Node) do(client int, r api.Request) []Out {
	_, _, _, errno := n.Do(r)
	if errno == api.OK {
		return nil
	}
	return to(client, api.Message{Kind: api.MsgBusy, Id: r.Id, Code: uint8(errno)})
}

// hear takes in how many events the successor has. What is more than there are here is not true; what is less than was heard is old.
func (n *Node) hear(length uint32) []Out {
	if uint64(length) > uint64(n.Len()) || int(length) <= n.next {
		return nil
	}
	n.next = int(length)
	return n.giveNext()
}

// giveNext gives the successor the first event that it is not known to have, if there is one.
func (n *Node) giveNext() []Out {
	ev, errno := n.Event(n.next)
	if errno != api.OK {
		return nil
	}
	return to(n.place+1, api.Message{Kind: api.MsgGive, Event: ev})
}

// have tells the predecessor how many events there are, all of them synced.
func (n *Node) have() []Out {
	return to(n.place-1, api.Message{Kind: api.MsgHave, Length: uint32(n.Len())})
}

// answer tells a client what its request was answered, if its event has come to the tail.
func (n *Node) answer(client int, id api.Id) []Out {
	place, done := n.Find(id)
	if !done {
		return nil
	}
	a, _ := n.Answer(place)
	return to(client, api.Message{Kind: api.MsgAnswer, Answer: a})
}

// Tick lets time go by, and tells what is sent.
func (n *Node) Tick() []Out {
	switch {
	case n.disk.Off() || n.place == Tail:
		return nil
	case n.next == unknown:
		return to(n.place+1, api.Message{Kind: api.MsgWhat})
	}
	return n.giveNext()
}

// to is one message to an address.
func to(address int, m api.Message) []Out { return []Out{{To: address, Message: m}} }
