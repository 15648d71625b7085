package store_test

import (
	"bytes"

	"almoner/api"
	"almoner/disk"
	"almoner/merkle"
	"almoner/record"
	"almoner/wal"
	"almoner/wire"
)

// plain is a store as the chapter's words say it: a list of events, of which all is worked out anew whenever it is asked for.
type plain struct {
	c      api.Config
	log    *wal.Log
	events []api.Event
	cutOff bool
}

func openPlain(c api.Config, d *disk.Disk, name string) (*plain, api.Errno) {
	l, e := wal.Open(d, name, c.Segment)
	if e != api.OK {
		return nil, e
	}
	p := &plain{c: c, log: l}
	if l.Len() > 4096 {
		return nil, api.EBROKEN
	}
	for i := range l.Len() {
		b, _ := l.At(i)
		ev, err := wire.GetEvent(b)
		if err != nil || !p.isRight(ev) {
			return nil, api.EBROKEN
		}
		p.events = append(p.events, ev)
	}
	return p, api.OK
}

// next tells what the model, behind the requests ahead, answers to a request.
func (p *plain) next(r api.Request) api.Answer {
	l := p.requests()
	return record.Answers(p.c.Staff, append(l, r))[len(l)]
}

func (p *plain) requests() []api.Request {
	var l []api.Request
	for _, ev := range p.events {
		l = append(l, ev.Request)
	}
	return l
}

func (p *plain) find(id api.Id) (int, bool) {
	for i, ev := range p.events {
		if ev.Request.Id == id {
			return i, true
		}
	}
	return 0, false
}

func (p *plain) isRight(ev api.Event) bool {
	if _, there := p.find(ev.Request.Id); there || int64(ev.Place) != int64(len(p.events)) || !record.Formed(ev.Request) {
		return false
	}
	want, e := record.Event(p.c.Width, ev.Place, ev.Request, p.next(ev.Request))
	return e == api.OK && sameEvent(ev, want)
}

func (p *plain) do(r api.Request) (int, api.Answer, bool, api.Errno) {
	if i, there := p.find(r.Id); there {
		return i, record.Answers(p.c.Staff, p.requests())[i], true, api.OK
	}
	if !record.Formed(r) {
		return 0, api.Answer{}, false, api.EARG
	}
	if len(p.events) == 4096 {
		return 0, api.Answer{}, false, api.ELIMIT
	}
	if p.cutOff {
		return 0, api.Answer{}, false, api.EOFF
	}
	a := p.next(r)
	ev, _ := record.Event(p.c.Width, uint32(len(p.events)), r, a)
	if e := p.logs(ev); e != api.OK {
		return 0, api.Answer{}, false, e
	}
	return len(p.events) - 1, a, false, api.OK
}

func (p *plain) take(ev api.Event) api.Errno {
	if int64(ev.Place) != int64(len(p.events)) {
		return api.EORDER
	}
	if len(p.events) == 4096 {
		return api.ELIMIT
	}
	if !p.isRight(ev) {
		return api.EBROKEN
	}
	if p.cutOff {
		return api.EOFF
	}
	return p.logs(ev)
}

func (p *plain) logs(ev api.Event) api.Errno {
	b, _ := wire.PutEvent(ev)
	_, e := p.log.Append(b)
	if e == api.OK {
		e = p.log.Sync()
	}
	if e == api.OK {
		p.events = append(p.events, ev)
	} else if e != api.EFULL && e != api.ELIMIT {
		p.cutOff = true
	}
	return e
}

func (p *plain) entries() [][]byte {
	var l [][]byte
	for _, ev := range p.events {
		b, _ := wire.PutEvent(ev)
		l = append(l, b)
	}
	return l
}

// tree's calls, of the first n entries, by merkle's functions that know no Tree.

func (p *plain) root(n int) ([]byte, api.Errno) {
	if n < 0 || n > len(p.events) {
		return nil, api.EARG
	}
	return merkle.Root(p.c.Width, p.entries()[:n]), api.OK
}

func (p *plain) path(place, n int) ([][]byte, api.Errno) {
	if n < 0 || n > len(p.events) {
		return nil, api.EARG
	}
	return merkle.Path(p.c.Width, p.entries()[:n], place)
}

func (p *plain) proof(m, n int) ([][]byte, api.Errno) {
	if n < 0 || n > len(p.events) {
		return nil, api.EARG
	}
	return merkle.Proof(p.c.Width, p.entries()[:n], m)
}

func (p *plain) many(places []int, n int) ([][]byte, api.Errno) {
	if n < 0 || n > len(p.events) {
		return nil, api.EARG
	}
	return merkle.Many(p.c.Width, p.entries()[:n], places)
}

func sameHashes(a, b [][]byte) bool {
	if len(a) != len(b) {
		return false
	}
	for i := range a {
		if !bytes.Equal(a[i], b[i]) {
			return false
		}
	}
	return true
}
