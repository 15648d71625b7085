package keyring_test

import (
	"bytes"
	"runtime"
	"slices"
	"strings"
	"testing"

	"almoner/api"
	"almoner/keyring"
)

const roomBehind = 40

// roomy tells a copy of a list with spare room that is not empty.
func roomy[T any](l []T, spare T) []T {
	all := append(slices.Clone(l), slices.Repeat([]T{spare}, roomBehind)...)
	return all[:len(l)]
}

// isAsHanded tells whether a list of roomy's is as it was, its spare room too.
func isAsHanded[T comparable](l, was []T, spare T) bool {
	n := len(was) + roomBehind
	return slices.Equal(l[:n], roomy(was, spare)[:n])
}

// scribble writes over a list and its spare room.
func scribble[T any](l []T, v T) {
	l = l[:cap(l)]
	for i := range l {
		l[i] = v
	}
}

// TestWhatIsHandedToOpen is not changed, and not kept.
func TestWhatIsHandedToOpen(t *testing.T) {
	people, extra := crowd(3), api.Staff{Actor: 9, Role: api.RoleDoctor}
	c := sized(2, 2)
	c.Seed, c.Staff = roomy([]byte{1}, 9), roomy(people, extra)
	r, _ := fresh(t, c)
	if !isAsHanded(c.Seed, []byte{1}, 9) || !isAsHanded(c.Staff, people, extra) {
		t.Error("R4: Open changes a list of the Config")
	}
	scribble(c.Seed, 0)
	scribble(c.Staff, api.Staff{})
	for key, h := range rising(4, 2) {
		signs(t, sized(2, 2), r, h, key)
	}
}

// TestWhatIsHandedToSign is not changed, and not kept, whatever it is answered.
func TestWhatIsHandedToSign(t *testing.T) {
	c := sized(2, 2)
	r, d := fresh(t, c)
	asks := func(h api.Head, want api.Errno) {
		t.Helper()
		was := h.Root
		h.Root = roomy(was, 77)
		if _, e := r.Sign(h); e != want {
			t.Errorf("P13.2: Sign(%v): %d, want %d", h, e, want)
		}
		if !isAsHanded(h.Root, was, 77) {
			t.Errorf("R4: Sign changes the root of %v", h)
		}
		scribble(h.Root, 55)
	}
	asks(head(3, 7), api.OK)
	asks(head(3, 7), api.OK)
	asks(head(3, 8), api.EFORK)
	asks(head(2, 7), api.EOLD)
	asks(wide(3, 5, 7), api.EARG)
	d.Fill(true)
	asks(head(5, 7), api.EFULL)
	d.Fill(false)
	asks(head(5, 6), api.OK)
	asks(head(8, 6), api.OK)
	r = opened(t, c, d)
	asks(head(5, 6), api.OK)
	d.Arm(1, 1000)
	asks(head(9, 6), api.EOFF)
	asks(head(9, 6), api.EOFF)
	holds(t, "roots are written over", r, 1, head(3, 7), head(5, 6), head(8, 6))
	d.Crash(1000)
	d.Start()
	r = opened(t, c, d)
	asks(head(10, 6), api.EKEYS)
	holds(t, "roots are written over", r, 0, head(3, 7), head(5, 6), head(8, 6), head(9, 6))
}

// spoil asks for all that a ring tells, and writes over it.
func spoil(r *keyring.Ring) {
	scribble(r.Public(), 77)
	l := r.Bound()
	for _, h := range slices.Clone(l) {
		s, _ := r.Sign(h)
		scribble(s.Signature, 77)
		scribble(s.Head.Root, 77)
		scribble(h.Root, 77)
	}
	scribble(l, api.Head{Size: 99})
}

func TestWhatIsHandedOut(t *testing.T) {
	c := sized(2, 2)
	r, d := fresh(t, c)
	want, _ := fresh(t, c)
	for key, h := range rising(4, 2) {
		s, e := r.Sign(h)
		if e != api.OK {
			t.Fatal(e)
		}
		scribble(s.Head.Root, 77)
		scribble(s.Signature, 77)
		signs(t, c, want, h, key)
		spoil(r)
		if seen(r) != seen(want) {
			t.Fatalf("R4: who writes over what is told changes the ring:\n%s", seen(r))
		}
	}
	u := opened(t, c, d)
	spoil(u)
	if seen(u) != seen(want) {
		t.Error("R4: who writes over what is told changes a ring that was opened")
	}
}

// TestNoTwoListsShare: of one answer, each list has memory of its own; nor does it share any with what was handed in.
func TestNoTwoListsShare(t *testing.T) {
	c := sized(2, 2)
	r, _ := fresh(t, c)
	for _, h := range rising(4, 2) {
		h.Root = roomy(h.Root, 66)
		s, _ := r.Sign(h)
		root, signature := bytes.Clone(s.Head.Root), bytes.Clone(s.Signature)
		scribble(h.Root, 1)
		if !bytes.Equal(s.Head.Root, root) || !bytes.Equal(s.Signature, signature) {
			t.Fatal("R4: a signed head shares memory with what was handed in")
		}
		scribble(s.Head.Root, 2)
		if !bytes.Equal(s.Signature, signature) {
			t.Fatal("R4: a root and a signature share memory")
		}
		scribble(s.Signature, 3)
		if !bytes.Equal(s.Head.Root, []byte{2, 2}) {
			t.Fatal("R4: a signature and a root share memory")
		}
	}
	l := r.Bound()
	for i := range l {
		scribble(l[i].Root, byte(100+i))
	}
	for i := range l {
		if !bytes.Equal(l[i].Root, []byte{byte(100 + i), byte(100 + i)}) {
			t.Fatal("R4: two roots of one answer share memory")
		}
	}
}

// TestWhatWasToldStays: answers that were told are not changed by what comes later.
func TestWhatWasToldStays(t *testing.T) {
	c := sized(2, 2)
	r, d := fresh(t, c)
	public := r.Public()
	first := signs(t, c, r, head(1, 1), 0)
	bound := r.Bound()
	was := []any{bytes.Clone(public), bytes.Clone(first.Signature), bytes.Clone(bound[0].Root)}
	for key, h := range rising(3, 2) {
		signs(t, c, r, h, key+1)
	}
	d.Turn("keys.0", 22, 1)
	d.Cut("keys.0", 0)
	if !bytes.Equal(public, was[0].([]byte)) || !bytes.Equal(first.Signature, was[1].([]byte)) || !bytes.Equal(bound[0].Root, was[2].([]byte)) || len(bound) != 1 {
		t.Error("R4: what was told has changed")
	}
}

// TestLongListsAreNotKept: of a name, a seed and a root that are pieces of longer ones the pieces alone are kept.
func TestLongListsAreNotKept(t *testing.T) {
	var rings []*keyring.Ring
	d := newDisk(t, 1<<20)
	for i := range 40 {
		name := strings.Repeat("p", 1<<20)[:1+i%32] + string(rune('a'+i%26))
		c := sized(1, 1)
		c.Seed = make([]byte, 1<<20)[:3]
		r, e := keyring.Open(c, d, name[:min(len(name), 32)])
		if e != api.OK {
			t.Fatal(e)
		}
		r.Sign(api.Head{Size: uint32(i), Root: make([]byte, 1<<20)[:1]})
		rings = append(rings, r)
	}
	var m runtime.MemStats
	runtime.GC()
	runtime.ReadMemStats(&m)
	if m.HeapAlloc > 24<<20 {
		t.Errorf("language rule 8: %d bytes are kept of 80 lists of 2^20", m.HeapAlloc)
	}
	runtime.KeepAlive(rings)
}

// TestNothingInCommon: two rings of one Config have nothing in common.
func TestNothingInCommon(t *testing.T) {
	c := sized(2, 2)
	r, _ := fresh(t, c)
	u, d := fresh(t, c)
	signs(t, c, r, head(1, 1), 0)
	was := seen(r)
	for key, h := range rising(3, 2) {
		signs(t, c, u, h, key)
	}
	d.Crash(0)
	refuses(t, "off", u, head(100, 1), api.EOFF)
	if seen(r) != was {
		t.Error("R5: what one ring does is seen in another one")
	}
	signs(t, c, r, head(2, 2), 1)
}
