package keyring_test

import (
	"bytes"
	"math"
	"testing"

	"almoner/api"
	"almoner/disk"
	"almoner/keyring"
)

func TestExamples(t *testing.T) {
	c := examples()
	r, d := fresh(t, c)
	holds(t, "a new ring", r, 2)

	first := signs(t, c, r, head(3, 7), 0)
	if again := signs(t, c, r, head(3, 7), 0); !sameSigned(again, first) {
		t.Error("P13.2: H(3, 7) once more is signed another way")
	}
	refuses(t, "H(3, 8)", r, head(3, 8), api.EFORK)
	refuses(t, "H(2, 1)", r, head(2, 1), api.EOLD)
	refuses(t, "a root of three bytes", r, wide(3, 4, 1), api.EARG)

	d.Fill(true)
	refuses(t, "full", r, head(4, 1), api.EFULL)
	d.Fill(false)
	second := signs(t, c, r, head(4, 2), 1)
	refuses(t, "no key is left", r, head(5, 1), api.EKEYS)
	if r.Left() != 0 {
		t.Errorf("P13.3: Left: %d", r.Left())
	}

	if again := signs(t, c, r, head(3, 7), 0); !sameSigned(again, first) {
		t.Error("P13.2: H(3, 7) once more, with no key left, is signed another way")
	}
	holds(t, "all keys bound", r, 0, head(3, 7), head(4, 2))

	r = opened(t, c, d)
	if again := signs(t, c, r, head(4, 2), 1); !sameSigned(again, second) || r.Left() != 0 {
		t.Errorf("P13.4: opened again H(4, 2) is signed another way, or %d keys are left", r.Left())
	}
}

// TestSignAllKeys: rings of several widths and heights, to their last key, with Bound and Left behind each call.
func TestSignAllKeys(t *testing.T) {
	for _, x := range []struct{ width, height int }{{1, 0}, {32, 0}, {1, 6}, {2, 3}, {3, 2}, {20, 2}, {31, 1}, {32, 2}} {
		c, n := sized(x.width, x.height), 1<<x.height
		r, d := fresh(t, c)
		l := rising(n+1, x.width)
		var told []api.Signed
		for key, h := range l[:n] {
			told = append(told, signs(t, c, r, h, key))
			holds(t, "a key more is bound", r, n-key-1, l[:key+1]...)
			if d.Pending() != 0 {
				t.Fatalf("P13.2: a signature is told, and %d bytes are pending", d.Pending())
			}
		}
		refuses(t, "no key is left", r, l[n], api.EKEYS)
		for _, ring := range []*keyring.Ring{r, opened(t, c, d)} {
			for key, h := range l[:n] {
				if again := signs(t, c, ring, h, key); !sameSigned(again, told[key]) {
					t.Errorf("P13.4: two signatures of the size %d", h.Size)
				}
			}
			holds(t, "all keys bound, all signed again", ring, 0, l[:n]...)
		}
	}
}

// TestSignWritesOnce: a head that is bound needs no write, and one that is new needs one: its bytes.
func TestSignWritesOnce(t *testing.T) {
	c := sized(2, 2)
	r, d := fresh(t, c)
	used := d.Used()
	for key, h := range rising(4, 2) {
		signs(t, c, r, h, key)
		used += frameAhead + len(bytesOf(t, h))
		signs(t, c, r, h, key)
		refuses(t, "a fork", r, head(h.Size, 99), api.EFORK)
		if d.Writes() != key+1 || d.Used() != used {
			t.Errorf("P13.2: %d writes, %d bytes, want %d, %d", d.Writes(), d.Used(), key+1, used)
		}
	}
}

// TestSignSizesAtTheEdge: 0 may be the first one, and behind 2^32 - 1 none comes.
func TestSignSizesAtTheEdge(t *testing.T) {
	c := sized(2, 3)
	r, _ := fresh(t, c)
	sizes := []uint32{0, 1, 255, 256, 1<<31 - 1, 1 << 31, math.MaxUint32}
	var l []api.Head
	for key, size := range sizes {
		l = append(l, head(size, byte(key)))
		signs(t, c, r, l[key], key)
	}
	holds(t, "sizes at the edge", r, 1, l...)
	for _, size := range []uint32{2, 254, 257, 1<<31 + 1, math.MaxUint32 - 1} {
		refuses(t, "a size between", r, head(size, 1), api.EOLD)
	}
	for _, size := range sizes {
		refuses(t, "another root", r, head(size, 99), api.EFORK)
	}
	r, _ = fresh(t, c)
	signs(t, c, r, head(math.MaxUint32, 1), 0)
	refuses(t, "0 behind the greatest", r, head(0, 1), api.EOLD)
}

// state is a ring, with what it has bound, and a head that would come next.
type state struct {
	c     api.Config
	r     *keyring.Ring
	d     *disk.Disk
	bound []api.Head
	next  api.Head
	want  api.Errno // what next is answered
}

// states tells rings in all the states that change what Sign answers.
func states(t *testing.T, width int) map[string]*state {
	t.Helper()
	c := sized(width, 2)
	build := func(n int, want api.Errno, turn func(x *state)) *state {
		x := &state{c: c, want: want, next: wide(width, 2000, 1)}
		x.r, x.d = fresh(t, c)
		for key := range n {
			h := wide(width, uint32(key*key+100), byte(3*key+1))
			x.bound = append(x.bound, h)
			signs(t, c, x.r, h, key)
		}
		turn(x)
		return x
	}
	cutOff := func(x *state) {
		x.d.Arm(1, 5)
		refuses(t, "torn", x.r, wide(width, 1999, 1), api.EOFF)
	}
	return map[string]*state{
		"new":                     build(0, api.OK, func(x *state) {}),
		"two bound":               build(2, api.OK, func(x *state) {}),
		"three bound, opened":     build(3, api.OK, func(x *state) { x.r = opened(t, c, x.d) }),
		"all bound":               build(4, api.EKEYS, func(x *state) {}),
		"all bound, opened":       build(4, api.EKEYS, func(x *state) { x.r = opened(t, c, x.d) }),
		"all bound, full":         build(4, api.EKEYS, func(x *state) { x.d.Fill(true) }),
		"all bound, the disk off": build(4, api.EKEYS, func(x *state) { x.d.Crash(0) }),
		"full":                    build(2, api.EFULL, func(x *state) { x.d.Fill(true) }),
		"new, full":               build(0, api.EFULL, func(x *state) { x.d.Fill(true) }),
		"the disk off":            build(2, api.EOFF, func(x *state) { x.d.Crash(0) }),
		"off and full":            build(2, api.EOFF, func(x *state) { x.d.Crash(0); x.d.Fill(true) }),
		"cut off":                 build(3, api.EOFF, cutOff),
		"new, cut off":            build(0, api.EOFF, cutOff),
		"cut off, on again":       build(2, api.EOFF, func(x *state) { cutOff(x); x.d.Crash(0); x.d.Start() }),
		"cut off, on, and full":   build(2, api.EOFF, func(x *state) { cutOff(x); x.d.Start(); x.d.Fill(true) }),
	}
}

// TestOrderOfTheCases asks every state for heads for which several cases apply at once.
func TestOrderOfTheCases(t *testing.T) {
	for _, width := range []int{1, 2, 32} {
		for what, x := range states(t, width) {
			was := laid(x.d) + seen(x.r)
			sizes := []uint32{0, 99, 101, 102, 150, 2000, math.MaxUint32}
			for _, h := range x.bound {
				sizes = append(sizes, h.Size)
			}
			for _, size := range sizes { // case 1, whatever the size
				for n := range 40 {
					if n != width {
						refuses(t, what+", a root of another width", x.r, wide(n, size, 1), api.EARG)
					}
				}
				refuses(t, what+", a root that is none", x.r, api.Head{Size: size}, api.EARG)
				refuses(t, what+", a long root", x.r, wide(1<<16+width, size, 1), api.EARG)
			}
			for key, h := range x.bound { // case 2
				signs(t, x.c, x.r, h, key)
				for i := range width {
					root := bytes.Clone(h.Root)
					root[i] ^= 128
					refuses(t, what+", another root", x.r, api.Head{Size: h.Size, Root: root}, api.EFORK)
				}
			}
			if len(x.bound) > 0 { // case 3
				last := x.bound[len(x.bound)-1]
				for size := range last.Size {
					if size < 2 || size > 97 && !isBound(x.bound, size) {
						refuses(t, what+", an old size", x.r, api.Head{Size: size, Root: last.Root}, api.EOLD)
					}
				}
			}
			if laid(x.d)+seen(x.r) != was {
				t.Errorf("P13.5: %s: the disk or the ring has changed", what)
			}
			if x.want != api.OK { // cases 4 to 6
				refuses(t, what, x.r, x.next, x.want)
				refuses(t, what+", once more", x.r, x.next, x.want)
			} else {
				signs(t, x.c, x.r, x.next, len(x.bound))
				x.bound = append(x.bound, x.next)
			}
			holds(t, what, x.r, 4-len(x.bound), x.bound...)
		}
	}
}

func isBound(l []api.Head, size uint32) bool {
	for _, h := range l {
		if h.Size == size {
			return true
		}
	}
	return false
}
