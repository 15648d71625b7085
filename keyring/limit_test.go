package keyring

import (
	"slices"
	"strconv"
	"testing"

	"almoner/api"
	"almoner/disk"
	"almoner/wal"
)

// These tests look inside: no Config that may be has segments so short that a ring's heads fill one, so the log of a ring is never at its end. Here it is given one that may be.

func shortLog(t *testing.T) (*Ring, *disk.Disk) {
	t.Helper()
	c := api.Config{Width: 2, Height: 2, Seed: []byte{1}, Segment: 8192, Disk: 8192}
	d, _ := disk.New(8192)
	r, e := Open(c, d, "keys")
	if e != api.OK {
		t.Fatalf("P13.1: Open: %d", e)
	}
	if r.log, e = wal.Open(d, "keys", 50); e != api.OK {
		t.Fatalf("wal.Open: %d", e)
	}
	return r, d
}

func sizes(l []api.Head) []uint32 {
	var all []uint32
	for _, h := range l {
		all = append(all, h.Size)
	}
	return all
}

func asks(t *testing.T, what string, r *Ring, size uint32, key uint32, want api.Errno, bound ...uint32) {
	t.Helper()
	s, e := r.Sign(api.Head{Size: size, Root: []byte{1, 2}})
	if e != want || s.Key != key || want != api.OK && (s.Head.Size != 0 || len(s.Head.Root)+len(s.Signature) != 0) {
		t.Errorf("P13.2: %s: Sign: %v, %d, want the key %d, %d", what, s, e, key, want)
	}
	if got := sizes(r.Bound()); !slices.Equal(got, bound) || r.Left() != 4-len(bound) {
		t.Errorf("P13.3: %s: %v are bound, want %v; %d left", what, got, bound, r.Left())
	}
}

// TestALogAtItsEnd: behind ELIMIT no key is bound, and the same call may be made again, when there is room for a file.
func TestALogAtItsEnd(t *testing.T) {
	r, d := shortLog(t)
	for i := range 255 {
		d.Create("other" + strconv.Itoa(i))
	}
	asks(t, "room", r, 1, 0, api.OK, 1)
	asks(t, "room", r, 2, 1, api.OK, 1, 2)
	for range 2 {
		asks(t, "at its end", r, 3, 0, api.ELIMIT, 1, 2)
		asks(t, "at its end, bound", r, 2, 1, api.OK, 1, 2)
	}
	d.Remove("other3")
	asks(t, "room for a file", r, 3, 2, api.OK, 1, 2, 3)
	asks(t, "room for a file", r, 4, 3, api.OK, 1, 2, 3, 4)
	if again, e := Open(api.Config{Width: 2, Height: 2, Seed: []byte{1}, Segment: 8192, Disk: 8192}, d, "keys"); e != api.OK || !slices.Equal(sizes(again.Bound()), []uint32{1, 2, 3, 4}) {
		t.Errorf("P13.4: opened again: %d", e)
	}
}

// TestFullInANewSegment: the log has begun another segment, and then there is no room.
func TestFullInANewSegment(t *testing.T) {
	r, d := shortLog(t)
	asks(t, "room", r, 1, 0, api.OK, 1)
	asks(t, "room", r, 2, 1, api.OK, 1, 2)
	d.Fill(true)
	asks(t, "full", r, 3, 0, api.EFULL, 1, 2)
	d.Fill(false)
	asks(t, "no longer full", r, 3, 2, api.OK, 1, 2, 3)
}

// TestAFileInTheWay: another hand has laid the file of the next segment; the log answers another error, which cuts off.
func TestAFileInTheWay(t *testing.T) {
	r, d := shortLog(t)
	d.Create("keys.1")
	asks(t, "room", r, 1, 0, api.OK, 1)
	asks(t, "room", r, 2, 1, api.OK, 1, 2)
	asks(t, "a file in the way", r, 3, 0, api.EARG, 1, 2)
	d.Remove("keys.1")
	asks(t, "no longer in the way", r, 3, 0, api.EOFF, 1, 2)
	asks(t, "bound", r, 1, 0, api.OK, 1, 2)
}

// TestTheWidestHeadsFitIntoASegment: so a ring's log has no end ahead of its keys'.
func TestTheWidestHeadsFitIntoASegment(t *testing.T) {
	c := api.Config{Width: 32, Height: 6, Seed: []byte{1}, Segment: 8192, Disk: 8192}
	d, _ := disk.New(8192)
	r, e := Open(c, d, "keys")
	if e != api.OK {
		t.Fatalf("P13.1: Open: %d", e)
	}
	for i := range 255 {
		d.Create("other" + strconv.Itoa(i))
	}
	for key := range uint32(64) {
		if s, e := r.Sign(api.Head{Size: key, Root: make([]byte, 32)}); e != api.OK || s.Key != key {
			t.Fatalf("P13.2: the key %d: %d, %d", key, s.Key, e)
		}
	}
	if r.Left() != 0 || len(r.log.Segments()) != 1 {
		t.Errorf("P13.3: %d left, segments %v", r.Left(), r.log.Segments())
	}
}
