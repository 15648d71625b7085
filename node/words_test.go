package node_test

import (
	"slices"

	"almoner/api"
	"almoner/disk"
	"almoner/keyring"
	"almoner/merkle"
	"almoner/node"
	"almoner/store"
)

// plain is a node as the chapter's words say it: its rows, one after the other, over a store and a ring.
type plain struct {
	c     api.Config
	place int
	d     *disk.Disk
	s     *store.Store
	r     *keyring.Ring
	next  int
}

func openPlain(c api.Config, place int, d *disk.Disk) (*plain, api.Errno) {
	if !slices.Contains(places, place) {
		return nil, api.EARG
	}
	p := &plain{c: c, place: place, d: d, next: -1}
	var e api.Errno
	if p.s, e = store.Open(c, d, "log"); e != api.OK {
		return nil, e
	}
	if place == node.Tail {
		if p.r, e = keyring.Open(c, d, "keys"); e != api.OK {
			return nil, e
		}
	}
	return p, api.OK
}

// row is one of P15.3's table: at which nodes, from whom, which message; what is done, and sent.
type row struct {
	nodes []int
	from  func(p *plain, from int, id api.Id) bool
	kind  uint8
	id    func(m api.Message) api.Id
	also  func(p *plain, m api.Message) bool
	does  func(p *plain, from int, m api.Message) []node.Out
}

func fromClient(p *plain, from int, id api.Id) bool {
	return from >= 10 && int64(from)-10 == int64(id.Client)
}

func fromSuccessor(p *plain, from int, id api.Id) bool {
	return p.place == 0 && from == 1 || p.place == 1 && from == 2
}

func fromPredecessor(p *plain, from int, id api.Id) bool {
	return p.place == 1 && from == 0 || p.place == 2 && from == 1
}

func always(p *plain, m api.Message) bool { return true }

func rows() []row {
	requestId := func(m api.Message) api.Id { return m.Request.Id }
	messageId := func(m api.Message) api.Id { return m.Id }
	notAbove := func(p *plain, m api.Message) bool { return int64(m.Length) <= int64(p.s.Len()) }
	return []row{
		{[]int{0}, fromClient, api.MsgRequest, requestId, always, (*plain).request},
		{[]int{0, 1}, fromSuccessor, api.MsgHave, messageId, notAbove, (*plain).had},
		{[]int{1, 2}, fromPredecessor, api.MsgWhat, messageId, always, (*plain).asked},
		{[]int{1, 2}, fromPredecessor, api.MsgGive, messageId, always, (*plain).given},
		{[]int{2}, fromClient, api.MsgAsk, messageId, always, (*plain).askedFor},
	}
}

func (p *plain) take(from int, m api.Message) []node.Out {
	if p.d.Off() {
		return nil
	}
	for _, r := range rows() {
		if slices.Contains(r.nodes, p.place) && r.kind == m.Kind && r.from(p, from, r.id(m)) && r.also(p, m) {
			sent := r.does(p, from, m)
			if p.d.Off() {
				return nil
			}
			return sent
		}
	}
	return nil
}

func (p *plain) request(from int, m api.Message) []node.Out {
	if _, there := p.s.Find(m.Request.Id); there {
		return nil
	}
	if _, _, _, e := p.s.Do(m.Request); e != api.OK {
		return []node.Out{out(from, busy(m.Request.Id, e))}
	}
	return nil
}

func (p *plain) had(from int, m api.Message) []node.Out {
	was := p.next
	p.next = max(p.next, int(m.Length))
	if p.next > was && p.next < p.s.Len() {
		return []node.Out{p.giveNext()}
	}
	return nil
}

func (p *plain) giveNext() node.Out {
	ev, _ := p.s.Event(p.next)
	return out(p.place+1, give(ev))
}

func (p *plain) asked(from int, m api.Message) []node.Out {
	return []node.Out{out(p.place-1, have(p.s.Len()))}
}

func (p *plain) given(from int, m api.Message) []node.Out {
	if int64(m.Event.Place) == int64(p.s.Len()) {
		p.s.Take(m.Event)
	}
	return p.asked(from, m)
}

func (p *plain) askedFor(from int, m api.Message) []node.Out {
	place, there := p.s.Find(m.Id)
	if !there {
		return nil
	}
	a, _ := p.s.Answer(place)
	return []node.Out{out(from, answer(a))}
}

func (p *plain) tick() []node.Out {
	if p.d.Off() || p.place == 2 {
		return nil
	}
	if p.next == -1 {
		return []node.Out{out(p.place+1, what())}
	}
	if p.next < p.s.Len() {
		return []node.Out{p.giveNext()}
	}
	return nil
}

func (p *plain) events() []api.Event {
	var l []api.Event
	for place := range p.s.Len() {
		ev, _ := p.s.Event(place)
		l = append(l, ev)
	}
	return l
}

func (p *plain) entries(n int) [][]byte {
	var l [][]byte
	for place := range n {
		b, _ := p.s.Entry(place)
		l = append(l, b)
	}
	return l
}

func (p *plain) head() (api.Signed, api.Errno) {
	if p.place != 2 {
		return api.Signed{}, api.ENONE
	}
	if p.d.Off() {
		return api.Signed{}, api.EOFF
	}
	return p.r.Sign(api.Head{Size: uint32(p.s.Len()), Root: merkle.Root(p.c.Width, p.entries(p.s.Len()))})
}

// inclusion and consistency ask merkle's functions that know no Tree.
func (p *plain) inclusion(place, size int) (api.Proof, api.Errno) {
	if p.place != 2 {
		return api.Proof{}, api.ENONE
	}
	if size < 0 || size > p.s.Len() || place < 0 || place > size-1 {
		return api.Proof{}, api.EARG
	}
	l, e := merkle.Path(p.c.Width, p.entries(size), place)
	return api.Proof{Hashes: l}, e
}

func (p *plain) consistency(m, size int) (api.Proof, api.Errno) {
	if p.place != 2 {
		return api.Proof{}, api.ENONE
	}
	if size < 0 || size > p.s.Len() || m < 0 || m > size {
		return api.Proof{}, api.EARG
	}
	l, e := merkle.Proof(p.c.Width, p.entries(size), m)
	return api.Proof{Hashes: l}, e
}

func (p *plain) keys() int {
	if p.place != 2 {
		return 0
	}
	return p.r.Left()
}
