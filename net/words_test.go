package net_test

// The chapter's words, read plainly: what the package is held against.

import (
	"bytes"

	"almoner/api"
	"almoner/net"
)

// What has become of a packet.
const (
	underWay = iota
	wasDelivered
	wasLost
)

// story is a packet that has ever come into the net, how, and what has become of it.
type story struct {
	from, to int
	bytes    []byte
	isCopy   bool
	fate     int
}

// plain is a net as the words say it: the stories of all packets, the packet 1 at 0. All that is told is worked out of them.
type plain struct {
	places int
	all    []story
}

func newPlain(places int) (*plain, api.Errno) {
	for n := 1; n <= 64; n++ {
		if n == places {
			return &plain{places: places}, api.OK
		}
	}
	return nil, api.EARG
}

func (p *plain) isPlace(number int) bool {
	for place := range p.places {
		if place == number {
			return true
		}
	}
	return false
}

// find tells the story of a packet that is under way, or nil.
func (p *plain) find(number int) *story {
	for i := range p.all {
		if i+1 == number && p.all[i].fate == underWay {
			return &p.all[i]
		}
	}
	return nil
}

func (p *plain) come(s story) int {
	s.bytes = bytes.Clone(s.bytes)
	p.all = append(p.all, s)
	return len(p.all)
}

func (p *plain) send(from, to int, b []byte) (int, api.Errno) {
	if !p.isPlace(from) || !p.isPlace(to) {
		return 0, api.EARG
	}
	return p.come(story{from: from, to: to, bytes: b}), api.OK
}

func (p *plain) copy(number int) (int, api.Errno) {
	s := p.find(number)
	if s == nil {
		return 0, api.ENONE
	}
	return p.come(story{from: s.from, to: s.to, bytes: s.bytes, isCopy: true}), api.OK
}

func (p *plain) deliver(number int) (net.Packet, api.Errno) {
	s := p.find(number)
	if s == nil {
		return net.Packet{}, api.ENONE
	}
	s.fate = wasDelivered
	return net.Packet{Number: number, From: s.from, To: s.to, Bytes: s.bytes}, api.OK
}

func (p *plain) drop(number int) api.Errno {
	s := p.find(number)
	if s == nil {
		return api.ENONE
	}
	s.fate = wasLost
	return api.OK
}

func (p *plain) lose(to int) int {
	n := 0
	for i := range p.all {
		if p.all[i].to == to && p.all[i].fate == underWay {
			p.all[i].fate = wasLost
			n++
		}
	}
	return n
}

func (p *plain) waiting() []net.Packet {
	var l []net.Packet
	for i, s := range p.all {
		if s.fate == underWay {
			l = append(l, net.Packet{Number: i + 1, From: s.from, To: s.to, Bytes: s.bytes})
		}
	}
	return l
}

// count tells sent, copied, delivered, lost.
func (p *plain) count() [4]int {
	var c [4]int
	for _, s := range p.all {
		if s.isCopy {
			c[1]++
		} else {
			c[0]++
		}
		if s.fate == wasDelivered {
			c[2]++
		}
		if s.fate == wasLost {
			c[3]++
		}
	}
	return c
}
