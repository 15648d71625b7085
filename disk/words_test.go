package disk_test

// The chapter's words, read plainly, byte by byte: what the package is held against.

import (
	"slices"
	"sort"

	"almoner/api"
)

// cell is one byte of a file: whether it is safe, and its place in the order of all that was written.
type cell struct {
	value byte
	safe  bool
	order int
}

// plain is a disk by the chapter's words.
type plain struct {
	limit   int
	files   map[string][]cell
	off     bool
	full    bool
	written int // bytes, ever
	writes  int
	armed   bool
	n, b    int
}

func newPlain(limit int) (*plain, api.Errno) {
	if limit < 1 || limit > 1048576 {
		return nil, api.EARG
	}
	return &plain{limit: limit, files: map[string][]cell{}}, api.OK
}

func (p *plain) first(name string) api.Errno {
	if p.off {
		return api.EOFF
	}
	if _, ok := p.files[name]; !ok {
		return api.ENONE
	}
	return api.OK
}

func (p *plain) create(name string) api.Errno {
	_, there := p.files[name]
	switch {
	case p.off:
		return api.EOFF
	case len(name) == 0 || len(name) > 64 || there:
		return api.EARG
	case len(p.files) == 256:
		return api.ELIMIT
	}
	p.files[name] = []cell{}
	return api.OK
}

func (p *plain) append(name string, b []byte) api.Errno {
	if e := p.first(name); e != api.OK {
		return e
	}
	if p.full || p.used()+len(b) > p.limit {
		return api.EFULL
	}
	p.writes++
	torn := false
	if p.armed {
		p.n--
		torn = p.n == 0
	}
	for i, x := range b {
		if torn && i >= p.b {
			break
		}
		p.files[name] = append(p.files[name], cell{x, false, p.written})
		p.written++
	}
	if torn {
		p.armed, p.off = false, true
		return api.EOFF
	}
	return api.OK
}

func (p *plain) sync(name string) api.Errno {
	e := p.first(name)
	if e == api.OK {
		for i := range p.files[name] {
			p.files[name][i].safe = true
		}
	}
	return e
}

func (p *plain) cut(name string, n int) api.Errno {
	if e := p.first(name); e != api.OK {
		return e
	}
	if n < 0 || n > len(p.files[name]) {
		return api.EARG
	}
	p.files[name] = p.files[name][:n]
	return api.OK
}

func (p *plain) remove(name string) api.Errno {
	e := p.first(name)
	if e == api.OK {
		delete(p.files, name)
	}
	return e
}

func (p *plain) read(name string, at, n int) ([]byte, api.Errno) {
	if e := p.first(name); e != api.OK {
		return nil, e
	}
	size := len(p.files[name])
	if at < 0 || n < 0 || uint64(at)+uint64(n) > uint64(size) {
		return nil, api.EARG
	}
	var b []byte
	for i, c := range p.files[name] {
		if i >= at && i-at < n {
			b = append(b, c.value)
		}
	}
	return b, api.OK
}

func (p *plain) size(name string) (int, api.Errno) {
	if e := p.first(name); e != api.OK {
		return 0, e
	}
	return len(p.files[name]), api.OK
}

func (p *plain) synced(name string) (int, api.Errno) {
	if e := p.first(name); e != api.OK {
		return 0, e
	}
	n := 0
	for _, c := range p.files[name] {
		if c.safe {
			n++
		}
	}
	return n, api.OK
}

func (p *plain) turn(name string, at int, bit uint) api.Errno {
	if e := p.first(name); e != api.OK {
		return e
	}
	if at < 0 || at >= len(p.files[name]) || bit > 7 {
		return api.EARG
	}
	c := &p.files[name][at]
	if c.value&(1<<bit) == 0 {
		c.value += 1 << bit
	} else {
		c.value -= 1 << bit
	}
	return api.OK
}

func (p *plain) names() []string {
	var l []string
	for name := range p.files {
		l = append(l, name)
	}
	sort.Slice(l, func(i, j int) bool { return slices.Compare([]byte(l[i]), []byte(l[j])) < 0 })
	return l
}

func (p *plain) used() int {
	n := 0
	for _, f := range p.files {
		n += len(f)
	}
	return n
}

func (p *plain) pending() int { return len(p.orders()) }

// orders tells the places of all pending bytes, rising.
func (p *plain) orders() []int {
	var l []int
	for _, f := range p.files {
		for _, c := range f {
			if !c.safe {
				l = append(l, c.order)
			}
		}
	}
	sort.Ints(l)
	return l
}

func (p *plain) arm(n, b int) api.Errno {
	if p.off {
		return api.EOFF
	}
	if n < 1 || b < 0 {
		return api.EARG
	}
	p.armed, p.n, p.b = true, n, b
	return api.OK
}

func (p *plain) crash(keep int) {
	p.off, p.armed = true, false
	stays := map[int]bool{}
	for i, o := range p.orders() {
		if i < keep {
			stays[o] = true
		}
	}
	for name, f := range p.files {
		left := []cell{}
		for _, c := range f {
			if c.safe || stays[c.order] {
				left = append(left, cell{c.value, true, c.order})
			}
		}
		p.files[name] = left
	}
}
