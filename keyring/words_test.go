package keyring_test

import (
	"bytes"

	"almoner/api"
	"almoner/disk"
	"almoner/wal"
	"almoner/wire"
)

// plain is a ring as the chapter's words say it: a list of heads, of which all is worked out anew whenever it is asked for.
type plain struct {
	c      api.Config
	log    *wal.Log
	heads  []api.Head
	cutOff bool
}

// openPlain is handed a Config that may be.
func openPlain(c api.Config, d *disk.Disk, name string) (*plain, api.Errno) {
	l, e := wal.Open(d, name, c.Segment)
	if e != api.OK {
		return nil, e
	}
	p := &plain{c: c, log: l}
	for i := range l.Len() {
		b, _ := l.At(i)
		h, err := wire.GetHead(b)
		if err != nil || i == p.many() || len(h.Root) != c.Width {
			return nil, api.EBROKEN
		}
		if i > 0 && h.Size <= p.heads[i-1].Size {
			return nil, api.EBROKEN
		}
		p.heads = append(p.heads, h)
	}
	return p, api.OK
}

// many tells how many keys there are.
func (p *plain) many() int {
	n := 1
	for range p.c.Height {
		n *= 2
	}
	return n
}

func (p *plain) left() int { return p.many() - len(p.heads) }

func (p *plain) public() []byte { return keysOf(p.c).Public() }

func (p *plain) sign(h api.Head) (api.Signed, api.Errno) {
	message, err := wire.PutHead(h)
	if err != nil || len(h.Root) != p.c.Width {
		return api.Signed{}, api.EARG
	}
	for key, b := range p.heads {
		if b.Size == h.Size && !bytes.Equal(b.Root, h.Root) {
			return api.Signed{}, api.EFORK
		}
		if b.Size == h.Size {
			return p.by(key, h), api.OK
		}
	}
	n := len(p.heads)
	if n > 0 && p.heads[n-1].Size > h.Size {
		return api.Signed{}, api.EOLD
	}
	if n == p.many() {
		return api.Signed{}, api.EKEYS
	}
	if p.cutOff {
		return api.Signed{}, api.EOFF
	}
	_, e := p.log.Append(message)
	if e == api.OK {
		e = p.log.Sync()
	}
	if e != api.OK {
		p.cutOff = e != api.EFULL && e != api.ELIMIT
		return api.Signed{}, e
	}
	p.heads = append(p.heads, api.Head{Size: h.Size, Root: bytes.Clone(h.Root)})
	return p.by(n, h), api.OK
}

// by tells a head signed by a key.
func (p *plain) by(key int, h api.Head) api.Signed {
	message, _ := wire.PutHead(h)
	b, _ := keysOf(p.c).Sign(key, message)
	return api.Signed{Head: h, Key: uint32(key), Signature: b}
}
