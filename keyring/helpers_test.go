package keyring_test

import (
	"bytes"
	"fmt"
	"slices"
	"strings"
	"testing"

	"almoner/api"
	"almoner/disk"
	"almoner/keyring"
	"almoner/lamport"
	"almoner/wal"
	"almoner/wire"
)

// frameAhead is how many bytes of a frame the log lays ahead of a payload.
const frameAhead = 12

// examples is the Config of the chapter's examples.
func examples() api.Config {
	return api.Config{Width: 2, Height: 1, Seed: []byte{1}, Segment: 8192, Disk: 8192}
}

// sized is one with hashes of so many bytes, and a tree of such a height.
func sized(width, height int) api.Config {
	c := examples()
	c.Width, c.Height = width, height
	return c
}

// head is H of the examples.
func head(size uint32, x byte) api.Head { return wide(2, size, x) }

// wide is a head whose root has so many bytes.
func wide(width int, size uint32, x byte) api.Head {
	return api.Head{Size: size, Root: bytes.Repeat([]byte{x}, width)}
}

func newDisk(t testing.TB, limit int) *disk.Disk {
	t.Helper()
	d, e := disk.New(limit)
	if e != api.OK {
		t.Fatalf("disk.New(%d): %d", limit, e)
	}
	return d
}

// opened tells the ring of a disk's log, which must be there.
func opened(t testing.TB, c api.Config, d *disk.Disk) *keyring.Ring {
	t.Helper()
	r, e := keyring.Open(c, d, "keys")
	if r == nil || e != api.OK {
		t.Fatalf("P13.1: Open: %v, %d", r, e)
	}
	return r
}

// fresh tells a ring on a disk of its own.
func fresh(t testing.TB, c api.Config) (*keyring.Ring, *disk.Disk) {
	t.Helper()
	d := newDisk(t, c.Disk)
	return opened(t, c, d), d
}

// fails asks for an error of Open, and no ring beside it.
func fails(t testing.TB, what string, c api.Config, d *disk.Disk, name string, want api.Errno) {
	t.Helper()
	if r, e := keyring.Open(c, d, name); r != nil || e != want {
		t.Errorf("P13.1: %s: Open: %v, %d, want none, %d", what, r, e, want)
	}
}

// signs asks for a signature by a key, which must be the one that lamport's keys make of the head's bytes.
func signs(t testing.TB, c api.Config, r *keyring.Ring, h api.Head, key int) api.Signed {
	t.Helper()
	s, e := r.Sign(h)
	if e != api.OK || int64(s.Key) != int64(key) || !sameHead(s.Head, h) {
		t.Fatalf("P13.2: Sign(%v): %v by the key %d, %d, want the key %d", h, s.Head, s.Key, e, key)
	}
	if !isTaken(c, r.Public(), s) {
		t.Fatalf("P13.2: Sign(%v): lamport does not take the signature", h)
	}
	if want := signature(t, c, key, h); !bytes.Equal(s.Signature, want) {
		t.Fatalf("P13.2: Sign(%v): %x, want %x", h, s.Signature, want)
	}
	return s
}

// isTaken tells whether lamport takes a signed head under a public hash.
func isTaken(c api.Config, public []byte, s api.Signed) bool {
	message, err := wire.PutHead(s.Head)
	return err == nil && lamport.Check(c.Width, c.Height, public, int(s.Key), message, s.Signature)
}

// signature tells lamport's of a head by a key.
func signature(t testing.TB, c api.Config, key int, h api.Head) []byte {
	t.Helper()
	b, e := keysOf(c).Sign(key, bytesOf(t, h))
	if e != api.OK {
		t.Fatal(e)
	}
	return b
}

var madeKeys = map[string]*lamport.Keys{}

// keysOf tells lamport's keys of a Config, each made once.
func keysOf(c api.Config) *lamport.Keys {
	name := fmt.Sprint(c.Width, c.Height, c.Seed)
	if madeKeys[name] == nil {
		madeKeys[name], _ = lamport.New(c.Width, c.Height, c.Seed)
	}
	return madeKeys[name]
}

// refuses asks for an error of Sign, zeros beside it, and a ring that has what it had.
func refuses(t testing.TB, what string, r *keyring.Ring, h api.Head, want api.Errno) {
	t.Helper()
	was := told(r)
	if s, e := r.Sign(h); !sameSigned(s, api.Signed{}) || e != want {
		t.Errorf("P13.2: %s: Sign(%v): %v, %d, want zeros and %d", what, h, s, e, want)
	}
	if now := told(r); now != was {
		t.Errorf("P13.5: %s: the ring had\n%s\nand has\n%s", what, was, now)
	}
}

// holds asks for the heads that are bound, and how many keys are left.
func holds(t testing.TB, what string, r *keyring.Ring, left int, want ...api.Head) {
	t.Helper()
	if got := r.Bound(); !slices.EqualFunc(got, want, sameHead) {
		t.Errorf("P13.3: %s: Bound: %v, want %v", what, got, want)
	}
	if r.Left() != left {
		t.Errorf("P13.3: %s: Left: %d, want %d", what, r.Left(), left)
	}
}

// bytesOf tells a head's, which must have some.
func bytesOf(t testing.TB, h api.Head) []byte {
	t.Helper()
	b, err := wire.PutHead(h)
	if err != nil {
		t.Fatalf("wire can't tell %v: %v", h, err)
	}
	return b
}

func allBytes(t testing.TB, l ...api.Head) [][]byte {
	t.Helper()
	var all [][]byte
	for _, h := range l {
		all = append(all, bytesOf(t, h))
	}
	return all
}

// lay tells a disk whose log has such payloads.
func lay(t testing.TB, payloads ...[]byte) *disk.Disk {
	t.Helper()
	d := newDisk(t, 65536)
	l, e := wal.Open(d, "keys", 8192)
	for i := 0; i < len(payloads) && e == api.OK; i++ {
		_, e = l.Append(payloads[i])
	}
	if e != api.OK || l.Sync() != api.OK {
		t.Fatalf("a log can't be laid: %d", e)
	}
	return d
}

func sameHead(a, b api.Head) bool { return a.Size == b.Size && bytes.Equal(a.Root, b.Root) }

func sameSigned(a, b api.Signed) bool {
	return sameHead(a.Head, b.Head) && a.Key == b.Key && bytes.Equal(a.Signature, b.Signature)
}

// told tells what a ring tells without being asked for a signature.
func told(r *keyring.Ring) string {
	return fmt.Sprintf("%x, %d left, %v\n", r.Public(), r.Left(), r.Bound())
}

// seen tells all that a ring tells without binding a key.
func seen(r *keyring.Ring) string {
	var b strings.Builder
	b.WriteString(told(r))
	for _, h := range r.Bound() {
		s, e := r.Sign(h)
		fmt.Fprintf(&b, "%v: %v %d\n", h, s, e)
	}
	return b.String()
}

// laid tells all that lies on a disk, and what of it is safe.
func laid(d *disk.Disk) string {
	var b strings.Builder
	fmt.Fprintln(&b, d.Off(), d.Used(), d.Pending())
	for _, name := range d.Names() {
		size, _ := d.Size(name)
		safe, _ := d.Synced(name)
		all, e := d.Read(name, 0, size)
		fmt.Fprintf(&b, "%q: %d safe, %x %d\n", name, safe, all, e)
	}
	return b.String()
}
