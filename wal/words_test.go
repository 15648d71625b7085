package wal_test

// The chapter's words, read plainly: what the package is held against.

import (
	"bytes"
	"encoding/binary"
	"fmt"
	"slices"

	"almoner/api"
	"almoner/disk"
)

// plain is a log by the chapter's words. It keeps nothing: its disk is read anew, whatever is asked.
type plain struct {
	d    *disk.Disk
	name string
	size int
}

// scanned tells the payloads of a segment's frames, where it is torn (-1, if it is not), and whether it is broken.
func scanned(b []byte, size int) (payloads [][]byte, torn int, broken bool) {
	at := 0
	for at < len(b) {
		left := len(b) - at
		if left < 12 {
			return payloads, at, false
		}
		first := int64(binary.BigEndian.Uint32(b[at:]))
		second := int64(binary.BigEndian.Uint32(b[at+4:]))
		sum := binary.BigEndian.Uint32(b[at+8:])
		if first+second != 0xffffffff || first > int64(size)-12 {
			return nil, -1, true
		}
		if int64(left)-12 < first {
			return payloads, at, false
		}
		payload := b[at+12 : at+12+int(first)]
		if sumOf(b[at:at+8], payload) != sum {
			return nil, -1, true
		}
		payloads = append(payloads, payload)
		at += 12 + int(first)
	}
	return payloads, -1, false
}

func (p *plain) file(i int) string { return fmt.Sprintf("%s.%d", p.name, i) }

// segments tells the bytes of each one.
func (p *plain) segments() [][]byte {
	var l [][]byte
	for slices.Contains(p.d.Names(), p.file(len(l))) {
		n, _ := p.d.Size(p.file(len(l)))
		b, _ := p.d.Read(p.file(len(l)), 0, n)
		l = append(l, b)
	}
	return l
}

func openPlain(d *disk.Disk, name string, size int) (*plain, api.Errno) {
	if name == "" || len(name) > 32 || size < 16 || size > 1048576 {
		return nil, api.EARG
	}
	if d.Off() {
		return nil, api.EOFF
	}
	p := &plain{d, name, size}
	all := p.segments()
	if len(all) == 0 {
		if e := d.Create(p.file(0)); e != api.OK {
			return nil, e
		}
		return p, api.OK
	}
	cut := -1
	for i, b := range all {
		_, torn, broken := scanned(b, size)
		if broken || torn >= 0 && i < len(all)-1 {
			return nil, api.EBROKEN
		}
		cut = torn
	}
	if cut >= 0 {
		d.Cut(p.file(len(all)-1), cut)
	}
	for i := range all { // so that all of them are safe
		d.Sync(p.file(i))
	}
	return p, api.OK
}

func (p *plain) append(payload []byte) (int, api.Errno) {
	if len(payload) > p.size-12 {
		return 0, api.ELIMIT
	}
	if p.d.Off() {
		return 0, api.EOFF
	}
	n := len(p.payloads())
	all := p.segments()
	open := len(all) - 1
	if 12+len(payload)+len(all[open]) > p.size {
		if e := p.d.Sync(p.file(open)); e != api.OK {
			return 0, e
		}
		open++
		if e := p.d.Create(p.file(open)); e != api.OK {
			return 0, e
		}
	}
	if e := p.d.Append(p.file(open), frameOf(payload)); e != api.OK {
		return 0, e
	}
	return n, api.OK
}

func (p *plain) sync() api.Errno {
	if p.d.Off() {
		return api.EOFF
	}
	return p.d.Sync(p.file(len(p.segments()) - 1))
}

func (p *plain) payloads() [][]byte {
	var l [][]byte
	for _, b := range p.segments() {
		more, _, _ := scanned(b, p.size)
		l = append(l, more...)
	}
	return l
}

// synced counts the payloads of a file's safe bytes, file by file.
func (p *plain) synced() int {
	n := 0
	for i, b := range p.segments() {
		safe, _ := p.d.Synced(p.file(i))
		whole, _, _ := scanned(b[:safe], p.size)
		n += len(whole)
	}
	return n
}

func (p *plain) at(place int) ([]byte, api.Errno) {
	if place < 0 || place >= len(p.payloads()) {
		return nil, api.EARG
	}
	return bytes.Clone(p.payloads()[place]), api.OK
}

func (p *plain) sizes() []int {
	var l []int
	for _, b := range p.segments() {
		l = append(l, len(b))
	}
	return l
}
