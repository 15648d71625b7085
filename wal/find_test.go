package wal_test

import (
	"bytes"
	"encoding/binary"
	"math/rand"
	"testing"

	"almoner/api"
	"almoner/disk"
	"almoner/wal"
)

// size is that of the segments in these tests.
const size = 40

// breaks fails, if Open does not answer EBROKEN, or has changed something.
func breaks(t *testing.T, what string, d *disk.Disk) {
	t.Helper()
	was := seen(d)
	fails(t, what, d, "log", size, api.EBROKEN)
	same(t, what+": nothing has changed", d, was)
}

// TestTornAtEachByte cuts the last frame of the first of two segments, of the second, and of a single one.
func TestTornAtEachByte(t *testing.T) {
	first, second := bytesOf(1, 3), bytesOf(2, 12)
	segment := append(frameOf(first), frameOf(second)...)
	for n := range len(segment) + 1 {
		left := [][]byte{first, second}
		ends := []int{15, 39}
		for len(left) > 0 && ends[len(left)-1] > n {
			left = left[:len(left)-1]
		}
		end := append([]int{0}, ends...)[len(left)]

		d := made(t, 1000, "log.0")
		d.Append("log.0", segment[:n]) // pending
		d.Append("log.0", nil)
		l := opened(t, d, "log", size)
		holds(t, "P9.1: one segment, torn", l, left...)
		counts(t, "P9.1: one segment, torn", l, len(left), len(left))
		sizes(t, "P9.1: one segment, torn", l, end)
		safe(t, "P9.1: cut and synced", d, "log.0", end, segment[:end])

		d = made(t, 1000)
		lay(t, d, "log.0", segment)
		lay(t, d, "log.1", segment[:n])
		l = opened(t, d, "log", size)
		holds(t, "P9.1: the open one is torn", l, append([][]byte{first, second}, left...)...)
		sizes(t, "P9.1: the open one is torn", l, 39, end)
		safe(t, "P9.1: the one ahead stays", d, "log.0", 39, segment)
		safe(t, "P9.1: the open one is cut", d, "log.1", end, segment[:end])

		d = made(t, 1000)
		lay(t, d, "log.0", segment[:n])
		lay(t, d, "log.1", segment)
		if n != end {
			breaks(t, "P9.1: torn, and not open", d)
			continue
		}
		l = opened(t, d, "log", size)
		holds(t, "P9.1: cut behind a frame, and so not torn", l, append(left, first, second)...)
		sizes(t, "P9.1: cut behind a frame, and so not torn", l, n, 39)
	}
}

// TestTornAheadOfAnEmptyOne: the last segment is open, even if it has no bytes.
func TestTornAheadOfAnEmptyOne(t *testing.T) {
	d := made(t, 1000)
	lay(t, d, "log.0", frameOf([]byte{1}), []byte{0})
	lay(t, d, "log.1")
	breaks(t, "P9.1: torn ahead of an empty one", d)
	d.Remove("log.1")
	sizes(t, "P9.1: torn, and open", opened(t, d, "log", size), 13)
}

// brokenFrames tells frames that are so, each in another way.
func brokenFrames() map[string][]byte {
	whole := frameOf([]byte{1, 2, 3})
	turned := func(at int, bits byte) []byte {
		b := bytes.Clone(whole)
		b[at] ^= bits
		return b
	}
	long := bytesOf(4, size-11)
	swapped := bytes.Clone(whole)
	copy(swapped[8:12], []byte{whole[11], whole[10], whole[9], whole[8]})
	alone := bytes.Clone(whole) // the sum of the payload without the 8 bytes ahead of it
	binary.BigEndian.PutUint32(alone[8:], sumOf([]byte{1, 2, 3}))
	same := append([]byte{0, 0, 0, 3, 0, 0, 0, 3}, whole[8:]...)
	return map[string][]byte{
		"the first number":                   turned(3, 1),
		"the first number's highest bit":     turned(0, 0x80),
		"the second number":                  turned(7, 1),
		"the second number's highest bit":    turned(4, 0x80),
		"the second number is the first one": same,
		"all zeros":                          make([]byte, 12),
		"all ones":                           bytes.Repeat([]byte{255}, 12),
		"a first number above S - 12":        frameOf(long),
		"above S - 12, and nothing behind":   headOf(size-11, long),
		"2^31, and nothing behind":           headOf(1<<31, nil),
		"2^32 - 1, and nothing behind":       headOf(1<<32-1, nil),
		"2^32 - 12, and nothing behind":      headOf(1<<32-12, nil),
		"the sum":                            turned(8, 4),
		"the sum's last bit":                 turned(11, 1),
		"the payload":                        turned(13, 16),
		"the sum, its lowest byte first":     swapped,
		"the sum of the payload alone":       alone,
		"the sum of nothing":                 append([]byte{0, 0, 0, 0, 255, 255, 255, 255}, 0, 0, 0, 0),
	}
}

func TestBroken(t *testing.T) {
	good := frameOf([]byte{9})
	for what, bad := range brokenFrames() {
		what = "P9.1: broken, " + what
		d := made(t, 1000)
		lay(t, d, "log.0", bad)
		breaks(t, what+", alone", d)

		d = made(t, 1000)
		lay(t, d, "log.0", good)
		d.Create("log.1")
		d.Append("log.1", good) // pending, and stays so
		d.Append("log.1", bad)
		breaks(t, what+", at the end of the open one", d)

		d = made(t, 1000)
		lay(t, d, "log.0", bad)
		lay(t, d, "log.1", good)
		lay(t, d, "log.2")
		breaks(t, what+", at the beginning of the first one", d)

		d = made(t, 1000)
		lay(t, d, "log.0", good)
		lay(t, d, "log.1", good, bad)
		lay(t, d, "log.2", good[:5])
		breaks(t, what+", ahead of what is torn", d)

		d = made(t, 1000)
		lay(t, d, "log.0", good[:12])
		lay(t, d, "log.1", bad)
		breaks(t, what+", behind what is torn", d)
	}
	for what, bad := range brokenFrames() {
		d := made(t, 1000)
		lay(t, d, "log.0", bad, good[:7])
		breaks(t, "P9.1: broken, "+what+", in the open one that is torn behind it", d)
	}
}

// TestTornOrBroken: what comes first in the words, where bytes are missing and others are wrong.
func TestTornOrBroken(t *testing.T) {
	whole := frameOf(bytesOf(1, 20))
	wrongSum := bytes.Clone(whole)
	wrongSum[9] ^= 1
	wrongLength := bytes.Clone(whole)
	wrongLength[6] ^= 1
	for n := 1; n < len(whole); n++ {
		d := made(t, 1000)
		lay(t, d, "log.0", wrongSum[:n])
		sizes(t, "P9.1: the sum is not asked for where bytes are missing", opened(t, d, "log", size), 0)

		d = made(t, 1000)
		lay(t, d, "log.0", wrongLength[:n])
		if n < 12 {
			sizes(t, "P9.1: fewer than 12 are torn, whatever they are", opened(t, d, "log", size), 0)
		} else {
			breaks(t, "P9.1: the numbers are asked for ahead of the bytes behind them", d)
		}
	}
	// A first number that is S - 12 may be, one above that may not; the bytes behind are missing.
	d := made(t, 1000)
	lay(t, d, "log.0", headOf(size-12, nil))
	sizes(t, "P9.1: a first number that is S - 12", opened(t, d, "log", size), 0)
	d = made(t, 1000)
	lay(t, d, "log.0", headOf(size-11, nil))
	breaks(t, "P9.1: a first number that is S - 11", d)
	// A wrong sum that is the whole's, once all bytes are there.
	d = made(t, 1000)
	lay(t, d, "log.0", wrongSum)
	breaks(t, "P9.1: the sum", d)
}

// TestEachBit turns each bit of each frame, of some logs.
func TestEachBit(t *testing.T) {
	for _, lengths := range [][]int{{0}, {1}, {28}, {0, 0, 0}, {3, 28, 0, 1}, {5, 6, 7, 8, 9, 0, 0, 28, 27}} {
		d := made(t, 10000)
		l := opened(t, d, "log", size)
		var want [][]byte
		for i, n := range lengths {
			want = append(want, bytesOf(i, n))
			adds(t, "P9.6", l, want[i], i)
		}
		was := seen(d)
		for _, name := range d.Names() {
			n, _ := d.Size(name)
			for at := range n {
				for bit := range uint(8) {
					d.Turn(name, at, bit)
					turned := seen(d)
					if m, e := wal.Open(d, "log", size); m != nil || e != api.EBROKEN {
						t.Fatalf("P9.6: bit %d of byte %d of %s is turned, and Open answers %d", bit, at, name, e)
					}
					same(t, "P9.1: nothing has changed", d, turned)
					d.Turn(name, at, bit)
				}
			}
		}
		same(t, "P9.6: turned back", d, was)
		holds(t, "P9.6: turned back", opened(t, d, "log", size), want...)
	}
}

// TestAnyBytes holds Open against the words, on segments of frames that were hurt in some way.
func TestAnyBytes(t *testing.T) {
	r := rand.New(rand.NewSource(909))
	told := map[api.Errno]int{}
	for range 30000 {
		var both [2]*disk.Disk
		for i := range both {
			both[i] = made(t, 10000)
		}
		for i := range r.Intn(4) {
			var b []byte
			for range r.Intn(4) {
				b = append(b, frameOf(bytesOf(r.Intn(100), r.Intn(30)))...)
			}
			b = hurt(r, b)
			name, half, sync := "log."+string(rune('0'+i)), len(b)/2, r.Intn(2) == 0
			for _, d := range both {
				d.Create(name)
				d.Append(name, b[:half])
				if sync {
					d.Sync(name)
				}
				d.Append(name, b[half:])
			}
		}
		segment := size - r.Intn(3)
		l, e := wal.Open(both[0], "log", segment)
		p, f := openPlain(both[1], "log", segment)
		told[e]++
		if e != f {
			t.Fatalf("P9.1: Open answered %d, want %d, of\n%s", e, f, seen(both[1]))
		}
		same(t, "P9.1: behind Open", both[0], seen(both[1]))
		if e == api.OK {
			holds(t, "P9.1: behind Open", l, p.payloads()...)
			sizes(t, "P9.1: behind Open", l, p.sizes()...)
			counts(t, "P9.1: behind Open", l, len(p.payloads()), len(p.payloads()))
		} else if l != nil {
			t.Fatal("R2: a log beside an error")
		}
	}
	if told[api.OK] < 5000 || told[api.EBROKEN] < 5000 {
		t.Errorf("the logs were not of both kinds: %v", told)
	}
}

// hurt tells bytes, often as they are.
func hurt(r *rand.Rand, b []byte) []byte {
	if len(b) == 0 {
		return b
	}
	switch r.Intn(10) {
	case 0:
		b[r.Intn(len(b))] ^= 1 << r.Intn(8)
	case 1, 2:
		b = b[:r.Intn(len(b))]
	case 3:
		b = b[max(0, len(b)-r.Intn(20)):]
	case 4:
		more := make([]byte, r.Intn(20))
		r.Read(more)
		b = append(b, more...)
	case 5:
		b = append(b, make([]byte, r.Intn(14))...)
	}
	return b
}
