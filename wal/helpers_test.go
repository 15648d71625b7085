package wal_test

import (
	"bytes"
	"encoding/binary"
	"fmt"
	"hash/crc32"
	"slices"
	"strings"
	"testing"

	"almoner/api"
	"almoner/disk"
	"almoner/wal"
)

// made tells a disk that has such files.
func made(t *testing.T, limit int, names ...string) *disk.Disk {
	t.Helper()
	d, e := disk.New(limit)
	if e != api.OK {
		t.Fatalf("New(%d): %v", limit, e)
	}
	for _, name := range names {
		lay(t, d, name)
	}
	return d
}

// lay makes a file of some bytes, all of them safe.
func lay(t *testing.T, d *disk.Disk, name string, pieces ...[]byte) {
	t.Helper()
	for _, e := range []api.Errno{d.Create(name), d.Append(name, bytes.Join(pieces, nil)), d.Sync(name)} {
		if e != api.OK {
			t.Fatalf("laying %q: %v", name, e)
		}
	}
}

// opened tells the log of a name, which must be there.
func opened(t *testing.T, d *disk.Disk, name string, segment int) *wal.Log {
	t.Helper()
	l, e := wal.Open(d, name, segment)
	if e != api.OK || l == nil {
		t.Fatalf("Open(%q, %d): %v, %v", name, segment, l, e)
	}
	return l
}

// fails fails, if Open does not answer an error, and no log beside it.
func fails(t *testing.T, what string, d *disk.Disk, name string, segment int, want api.Errno) {
	t.Helper()
	l, e := wal.Open(d, name, segment)
	if l != nil || e != want {
		t.Errorf("%s: Open(%.40q, %d) answered %v, %d, want none and %d", what, name, segment, l, e, want)
	}
}

// wants fails, if an Errno is another one.
func wants(t *testing.T, what string, got, want api.Errno) {
	t.Helper()
	if got != want {
		t.Errorf("%s: answered %d, want %d", what, got, want)
	}
}

// adds appends a payload, and fails, if it does not get that place.
func adds(t *testing.T, what string, l *wal.Log, payload []byte, place int) {
	t.Helper()
	if at, e := l.Append(payload); at != place || e != api.OK {
		t.Fatalf("%s: Append of %d bytes answered %d, %d, want the place %d", what, len(payload), at, e, place)
	}
}

// refuses appends a payload, and fails, if that is not refused, with no place beside it.
func refuses(t *testing.T, what string, l *wal.Log, payload []byte, want api.Errno) {
	t.Helper()
	if at, e := l.Append(payload); at != 0 || e != want {
		t.Errorf("%s: Append of %d bytes answered %d, %d, want 0, %d", what, len(payload), at, e, want)
	}
}

// holds fails, if a log has other payloads.
func holds(t *testing.T, what string, l *wal.Log, want ...[]byte) {
	t.Helper()
	if l.Len() != len(want) {
		t.Fatalf("%s: %d payloads, want %d", what, l.Len(), len(want))
	}
	for i := range want {
		if b, e := l.At(i); e != api.OK || !bytes.Equal(b, want[i]) {
			t.Fatalf("%s: At(%d) answered %v, %d, want %v", what, i, b, e, want[i])
		}
	}
}

// counts fails, if Len or Synced are others.
func counts(t *testing.T, what string, l *wal.Log, n, safe int) {
	t.Helper()
	if l.Len() != n || l.Synced() != safe {
		t.Errorf("%s: Len %d, Synced %d, want %d, %d", what, l.Len(), l.Synced(), n, safe)
	}
}

// sizes fails, if the segments have other sizes.
func sizes(t *testing.T, what string, l *wal.Log, want ...int) {
	t.Helper()
	if s := l.Segments(); !slices.Equal(s, want) {
		t.Errorf("%s: segments of %v bytes, want %v", what, s, want)
	}
}

// named fails, if the files of a disk have other names.
func named(t *testing.T, what string, d *disk.Disk, want ...string) {
	t.Helper()
	if l := d.Names(); !slices.Equal(l, want) {
		t.Errorf("%s: names %q, want %q", what, l, want)
	}
}

// frameOf tells the frame of a payload, by the words, and by another CRC-32C.
func frameOf(payload []byte) []byte {
	n := uint32(len(payload))
	b := binary.BigEndian.AppendUint32(nil, n)
	b = binary.BigEndian.AppendUint32(b, 0xffffffff-n)
	return append(binary.BigEndian.AppendUint32(b, sumOf(b, payload)), payload...)
}

// sumOf tells the sum of bytes that come one behind the other.
func sumOf(pieces ...[]byte) uint32 {
	return crc32.Checksum(bytes.Join(pieces, nil), crc32.MakeTable(crc32.Castagnoli))
}

// headOf tells a frame's first 12 bytes, of such a length, with the sum of a payload.
func headOf(n uint32, payload []byte) []byte {
	b := binary.BigEndian.AppendUint32(nil, n)
	b = binary.BigEndian.AppendUint32(b, ^n)
	return binary.BigEndian.AppendUint32(b, sumOf(b, payload))
}

// bytesOf tells n bytes that are those of no other number.
func bytesOf(number, n int) []byte {
	b := make([]byte, n)
	for i := range b {
		b[i] = byte(number*37 + i*11 + 5)
	}
	return b
}

// seen tells all that can be seen of a disk: of one that is off, that alone and how much it has.
func seen(d *disk.Disk) string {
	var b strings.Builder
	fmt.Fprintf(&b, "off %v, used %d, pending %d, writes %d\n", d.Off(), d.Used(), d.Pending(), d.Writes())
	for _, name := range d.Names() {
		n, _ := d.Size(name)
		safe, _ := d.Synced(name)
		text, _ := d.Read(name, 0, n)
		fmt.Fprintf(&b, "%q %d %d %x\n", name, n, safe, text)
	}
	return b.String()
}

// same fails, if a disk is not as it was.
func same(t *testing.T, what string, d *disk.Disk, was string) {
	t.Helper()
	if is := seen(d); is != was {
		t.Errorf("%s: the disk was\n%sand is\n%s", what, was, is)
	}
}

// file tells the bytes of a file.
func file(t *testing.T, d *disk.Disk, name string) []byte {
	t.Helper()
	n, _ := d.Size(name)
	b, e := d.Read(name, 0, n)
	if e != api.OK {
		t.Fatalf("Read(%q): %v", name, e)
	}
	return b
}

// safe fails, if a file has other bytes, or not so many of them are safe.
func safe(t *testing.T, what string, d *disk.Disk, name string, safe int, pieces ...[]byte) {
	t.Helper()
	want := bytes.Join(pieces, nil)
	s, e := d.Synced(name)
	if b := file(t, d, name); e != api.OK || s != safe || !bytes.Equal(b, want) {
		t.Errorf("%s: %q has %v, %d safe (%d), want %v, %d safe", what, name, b, s, e, want, safe)
	}
}
