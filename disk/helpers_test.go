package disk_test

import (
	"bytes"
	"fmt"
	"slices"
	"strings"
	"testing"

	"almoner/api"
	"almoner/disk"
)

// pair is a disk and the words' one, that are called alike.
type pair struct {
	t    *testing.T
	d    *disk.Disk
	p    *plain
	said [][]any // the calls: their form, and their arguments
}

func newPair(t *testing.T, limit int) *pair {
	t.Helper()
	return &pair{t: t, d: made(t, limit), p: must(newPlain(limit))}
}

func must(p *plain, _ api.Errno) *plain { return p }

// say keeps a call with its arguments, and fails if the two answers are not one.
func (x *pair) say(got, want any, form string, args ...any) {
	x.keep(form, args...)
	if got != want {
		x.t.Fatalf("%s\nanswered %v, want %v", x.told(), got, want)
	}
}

func (x *pair) keep(form string, args ...any) {
	x.said = append(x.said, append([]any{form}, args...))
}

// told tells all calls up to now.
func (x *pair) told() string {
	var l []string
	for _, call := range x.said {
		l = append(l, fmt.Sprintf(call[0].(string), call[1:]...))
	}
	return strings.Join(l, "; ")
}

func (x *pair) create(name string) {
	x.say(x.d.Create(name), x.p.create(name), "Create(%.8q)", name)
}

func (x *pair) append(name string, b []byte) {
	x.say(x.d.Append(name, b), x.p.append(name, b), "Append(%.8q, %d bytes)", name, len(b))
}

func (x *pair) sync(name string) {
	x.say(x.d.Sync(name), x.p.sync(name), "Sync(%.8q)", name)
}

func (x *pair) cut(name string, n int) {
	x.say(x.d.Cut(name, n), x.p.cut(name, n), "Cut(%.8q, %d)", name, n)
}

func (x *pair) remove(name string) {
	x.say(x.d.Remove(name), x.p.remove(name), "Remove(%.8q)", name)
}

func (x *pair) turn(name string, at int, bit uint) {
	x.say(x.d.Turn(name, at, bit), x.p.turn(name, at, bit), "Turn(%.8q, %d, %d)", name, at, bit)
}

func (x *pair) read(name string, at, n int) {
	got, e := x.d.Read(name, at, n)
	want, f := x.p.read(name, at, n)
	x.say(e, f, "Read(%.8q, %d, %d)", name, at, n)
	x.say(string(got), string(want), "and its bytes")
}

func (x *pair) arm(n, b int) {
	x.say(x.d.Arm(n, b), x.p.arm(n, b), "Arm(%d, %d)", n, b)
}

func (x *pair) fill(full bool) {
	x.d.Fill(full)
	x.p.full = full
	x.keep("Fill(%v)", full)
}

func (x *pair) crash(keep int) {
	x.d.Crash(keep)
	x.p.crash(keep)
	x.keep("Crash(%d)", keep)
}

func (x *pair) start() {
	x.d.Start()
	x.p.off = false
	x.keep("Start()")
}

// look asks for all that can be seen of both.
func (x *pair) look() {
	kept := x.said
	x.say(x.d.Off(), x.p.off, "Off()")
	x.say(strings.Join(x.d.Names(), "\n"), strings.Join(x.p.names(), "\n"), "Names()")
	x.say(x.d.Used(), x.p.used(), "Used()")
	x.say(x.d.Pending(), x.p.pending(), "Pending()")
	x.say(x.d.Writes(), x.p.writes, "Writes()")
	for _, name := range append(x.p.names(), "no such file") {
		n, e := x.d.Size(name)
		m, f := x.p.size(name)
		x.say(e, f, "Size(%.8q)", name)
		x.say(n, m, "Size(%.8q)", name)
		n, e = x.d.Synced(name)
		s, f := x.p.synced(name)
		x.say(e, f, "Synced(%.8q)", name)
		x.say(n, s, "Synced(%.8q)", name)
		x.read(name, 0, m)
	}
	x.said = kept
}

// made tells a disk that has such files.
func made(t *testing.T, limit int, names ...string) *disk.Disk {
	t.Helper()
	d, e := disk.New(limit)
	if e != api.OK || d == nil {
		t.Fatalf("New(%d): %v", limit, e)
	}
	for _, name := range names {
		if e := d.Create(name); e != api.OK {
			t.Fatalf("Create(%q): %v", name, e)
		}
	}
	return d
}

// wants fails, if an Errno is another one.
func wants(t *testing.T, what string, got, want api.Errno) {
	t.Helper()
	if got != want {
		t.Errorf("%s: answered %d, want %d", what, got, want)
	}
}

// holds fails, if a file has other bytes, or others of them are safe.
func holds(t *testing.T, what string, d *disk.Disk, name string, safe int, want ...byte) {
	t.Helper()
	n, e := d.Size(name)
	s, f := d.Synced(name)
	b, g := d.Read(name, 0, n)
	if e != api.OK || f != api.OK || g != api.OK || n != len(want) || s != safe || !bytes.Equal(b, want) {
		t.Errorf("%s: %q has %v (%d bytes, %d safe; %v %v %v), want %v, %d safe", what, name, b, n, s, e, f, g, want, safe)
	}
}

// counts fails, if Used, Pending or Writes are others.
func counts(t *testing.T, what string, d *disk.Disk, used, pending, writes int) {
	t.Helper()
	if d.Used() != used || d.Pending() != pending || d.Writes() != writes {
		t.Errorf("%s: used %d, pending %d, writes %d, want %d, %d, %d", what, d.Used(), d.Pending(), d.Writes(), used, pending, writes)
	}
}

// named fails, if the files have other names.
func named(t *testing.T, what string, d *disk.Disk, want ...string) {
	t.Helper()
	if l := d.Names(); !slices.Equal(l, want) {
		t.Errorf("%s: names %q, want %q", what, l, want)
	}
}
