package wal_test

import (
	"bytes"
	"fmt"
	"math"
	"slices"
	"strings"
	"testing"

	"almoner/api"
	"almoner/disk"
	"almoner/wal"
)

// TestExamples goes through the chapter's table, line by line.
func TestExamples(t *testing.T) {
	d := made(t, 4096)
	l := opened(t, d, "log", 40)
	fails(t, "no name", d, "", 40, api.EARG)
	fails(t, "a small segment", d, "log", 15, api.EARG)
	named(t, "a new log", d, "log.0")
	counts(t, "a new log", l, 0, 0)

	many := bytesOf(3, 28)
	adds(t, "three bytes", l, []byte{1, 2, 3}, 0)
	adds(t, "28 bytes", l, many, 1)
	refuses(t, "29 bytes", l, make([]byte, 29), api.ELIMIT)
	counts(t, "the first segment is safe", l, 2, 1)
	sizes(t, "two segments", l, 15, 40)

	head, e := d.Read("log.0", 0, 12)
	wants(t, "Read", e, api.OK)
	want := []byte{0, 0, 0, 3, 255, 255, 255, 252}
	sum := sumOf(want, []byte{1, 2, 3})
	want = append(want, byte(sum>>24), byte(sum>>16), byte(sum>>8), byte(sum))
	if !bytes.Equal(head, want) {
		t.Errorf("a frame's head is %v, want %v", head, want)
	}

	adds(t, "nothing", l, []byte{}, 2)
	wants(t, "Sync", l.Sync(), api.OK)
	counts(t, "all is safe", l, 3, 3)
	holds(t, "three", l, []byte{1, 2, 3}, many, nil)
	b, e := l.At(3)
	if len(b) != 0 || e != api.EARG {
		t.Errorf("At(3): %v %d", b, e)
	}
	named(t, "three segments", d, "log.0", "log.1", "log.2")

	adds(t, "one byte", l, []byte{7}, 3)
	d.Crash(12)
	b, e = l.At(0)
	if len(b) != 0 || e != api.EOFF {
		t.Errorf("At(0) while it is off: %v %d", b, e)
	}
	d.Start()
	l = opened(t, d, "log", 40)
	counts(t, "behind the crash", l, 3, 3)
	sizes(t, "behind the crash", l, 15, 40, 12)

	d.Turn("log.1", 20, 3)
	fails(t, "a turned bit", d, "log", 40, api.EBROKEN)
	d.Turn("log.1", 20, 3)
	d.Cut("log.1", 39)
	fails(t, "torn, and not open", d, "log", 40, api.EBROKEN)
}

func TestNames(t *testing.T) {
	every := make([]byte, 256)
	for i := range every {
		every[i] = byte(i)
	}
	good := []string{"a", ".", "0", "\x00", "\xff", strings.Repeat("x", 32), strings.Repeat("\x00", 32), "log.0", "a b", "é", "7"}
	for i := 0; i < 256; i += 32 {
		good = append(good, string(every[i:i+32]))
	}
	for _, name := range good {
		d := made(t, 1000)
		l := opened(t, d, name, 20)
		named(t, "P9.1: a name", d, name+".0")
		adds(t, "P9.1: a name", l, []byte{1, 2}, 0)
		adds(t, "P9.1: a name", l, []byte{3}, 1)
		named(t, "P9.1: a name", d, name+".0", name+".1")
		holds(t, "P9.1: a name", opened(t, d, name, 20), []byte{1, 2}, []byte{3})
	}
	for _, name := range []string{"", strings.Repeat("x", 33), strings.Repeat("\x00", 33), strings.Repeat("é", 17), strings.Repeat("y", 64), strings.Repeat("z", 100000)} {
		d := made(t, 1000, "other")
		was := seen(d)
		fails(t, "P9.1: a name that may not be", d, name, 20, api.EARG)
		same(t, "R3: a name that may not be", d, was)
	}
}

func TestSegmentSizes(t *testing.T) {
	for _, size := range []int{math.MinInt, math.MinInt32, -1 << 20, -16, -1, 0, 1, 11, 12, 13, 14, 15, 1<<20 + 1, 1 << 21, 1 << 31, 1 << 32, 1<<32 + 16, math.MaxInt} {
		d := made(t, 1000)
		fails(t, "P9.1: a segment size that may not be", d, "log", size, api.EARG)
		named(t, "R3: a segment size that may not be", d)
	}
	for _, size := range []int{16, 17, 100, 8192, 1<<20 - 1, 1 << 20} {
		d := made(t, 1<<20)
		l := opened(t, d, "log", size)
		sizes(t, "P9.1: a new log", l, 0)
		refuses(t, "P9.2: one byte too many", l, make([]byte, size-11), api.ELIMIT)
		most := bytesOf(1, size-12)
		adds(t, "P9.2: as many as there may be", l, most, 0)
		sizes(t, "P9.2: a segment that is full", l, size)
		wants(t, "Sync", l.Sync(), api.OK)
		holds(t, "P9.1: a segment that is full", opened(t, d, "log", size), most)
	}
}

// TestTheOrderOfOpensErrors lets two be due, and looks which one is told.
func TestTheOrderOfOpensErrors(t *testing.T) {
	d := made(t, 1000)
	lay(t, d, "log.0", []byte{0, 0, 0, 0, 0, 0, 0, 0, 0, 0, 0, 0})
	was := seen(d)
	fails(t, "P9.1: broken, and a size that may not be", d, "log", 15, api.EARG)
	fails(t, "P9.1: broken", d, "log", 16, api.EBROKEN)
	d.Crash(0)
	fails(t, "P9.1: off", d, "log", 16, api.EOFF)
	fails(t, "P9.1: off", d, "other", 16, api.EOFF)
	fails(t, "P9.1: off, and no name", d, "", 16, api.EARG)
	fails(t, "P9.1: off, and a size that may not be", d, "log", 15, api.EARG)
	fails(t, "P9.1: off, and a size that may not be", d, "log", 1<<20+1, api.EARG)
	d.Start()
	same(t, "R3: an Open that was refused", d, was)
}

func TestOpenWithoutASegment(t *testing.T) {
	d := made(t, 100)
	l := opened(t, d, "log", 30)
	named(t, "P9.1: no segment", d, "log.0")
	counts(t, "P9.1: no segment", l, 0, 0)
	sizes(t, "P9.1: no segment", l, 0)
	if d.Writes() != 0 {
		t.Errorf("P9.1: Open has written %d times", d.Writes())
	}

	d = made(t, 100)
	d.Fill(true)
	sizes(t, "P9.1: a file needs no room", opened(t, d, "log", 30), 0)

	d = made(t, 100)
	for i := range 256 {
		lay(t, d, fmt.Sprint("f", i))
	}
	was := seen(d)
	fails(t, "P9.1: the disk refuses the first segment", d, "log", 30, api.ELIMIT)
	same(t, "R3: the disk refuses the first segment", d, was)
	d.Remove("f9")
	sizes(t, "P9.1: there is room for one file", opened(t, d, "log", 30), 0)
}

func TestOpenWithSegments(t *testing.T) {
	for _, n := range []int{1, 2, 9, 10, 11, 12, 100, 101, 256} {
		d := made(t, 1<<20)
		var want [][]byte
		var bytes []int
		for i := range n {
			payloads := [][]byte{bytesOf(i, i%5), bytesOf(i+1000, (i+3)%7)}[:2-i%2]
			var frames [][]byte
			size := 0
			for _, p := range payloads {
				frames = append(frames, frameOf(p))
				size += 12 + len(p)
			}
			lay(t, d, fmt.Sprint("log.", i), frames...)
			want, bytes = append(want, payloads...), append(bytes, size)
		}
		was := seen(d)
		l := opened(t, d, "log", 40)
		holds(t, "P9.1: segments in their order", l, want...)
		sizes(t, "P9.1: segments in their order", l, bytes...)
		counts(t, "P9.1: all of them are safe", l, len(want), len(want))
		same(t, "P9.1: segments that are whole stay as they are", d, was)
	}
}

// TestEmptySegments: a segment without bytes is neither torn nor broken, wherever it stands.
func TestEmptySegments(t *testing.T) {
	d := made(t, 1000, "log.0", "log.1")
	lay(t, d, "log.2", frameOf([]byte{5}))
	lay(t, d, "log.3")
	l := opened(t, d, "log", 16)
	holds(t, "P9.1: empty segments", l, []byte{5})
	sizes(t, "P9.1: empty segments", l, 0, 0, 13, 0)
	adds(t, "P9.2: the empty one is open", l, []byte{6}, 1)
	sizes(t, "P9.2: the empty one is open", l, 0, 0, 13, 13)
}

// TestFilesThatAreNoSegments: like names, with bytes that would be broken.
func TestFilesThatAreNoSegments(t *testing.T) {
	junk := []byte{1, 2, 3, 4, 5, 6, 7, 8, 9, 10, 11, 12, 13}
	d := made(t, 10000)
	for _, name := range []string{"log", "log.", "log.00", "log.01", "log.+1", "log.-1", "log.1 ", "log. 1", "log.2", "log.3", "log.10", "log.0x1", "log.1.0", "log.0.0", "log0", "log.a", "Log.0", "Log.1", "xlog.1", "lo.0", "lo.1", ".1", "log..1", "log.１", "log.1e0", "log.0\x00"} {
		lay(t, d, name, junk)
	}
	was := seen(d)
	l := opened(t, d, "log", 20)
	holds(t, "P9.1: no segment, but like names", l)
	sizes(t, "P9.1: no segment, but like names", l, 0)
	d.Remove("log.0")
	same(t, "P9.1: files that are no segments", d, was)

	lay(t, d, "log.0", frameOf([]byte{1, 2}))
	was = seen(d)
	l = opened(t, d, "log", 20)
	holds(t, "P9.1: one segment, and like names", l, []byte{1, 2})
	sizes(t, "P9.1: a gap in the numbers", l, 14)
	same(t, "P9.1: files that are no segments", d, was)
	adds(t, "P9.2: the next number", l, []byte{3}, 1)
	sizes(t, "P9.2: the next number", l, 14, 13)
	safe(t, "P9.2: the next number", d, "log.1", 0, frameOf([]byte{3}))
	wants(t, "Sync", l.Sync(), api.OK)
	refuses(t, "P9.2: the disk has a file of the next one's name", l, []byte{4}, api.EARG)
	counts(t, "P9.2: the disk has a file of the next one's name", l, 2, 2)
	for _, name := range []string{"log.2", "log.3"} {
		safe(t, "P9.1: a file that is no segment", d, name, 13, junk)
	}
}

func TestAppendAtTheEdges(t *testing.T) {
	d := made(t, 1<<16)
	l := opened(t, d, "log", 40)
	adds(t, "P9.2: no bytes", l, nil, 0)
	adds(t, "P9.2: no bytes", l, []byte{}, 1)
	sizes(t, "P9.2: frames of nothing", l, 24)
	adds(t, "P9.2: they just fill the segment", l, bytesOf(2, 4), 2)
	sizes(t, "P9.2: they just fill the segment", l, 40)
	named(t, "P9.2: no segment ahead of its first frame", d, "log.0")
	counts(t, "P9.2: nothing is synced yet", l, 3, 0)
	adds(t, "P9.2: nothing behind a full one", l, nil, 3)
	sizes(t, "P9.2: nothing behind a full one", l, 40, 12)
	safe(t, "P9.2: the full one was synced", d, "log.0", 40, frameOf(nil), frameOf(nil), frameOf(bytesOf(2, 4)))
	safe(t, "P9.2: the new one was not", d, "log.1", 0, frameOf(nil))
	adds(t, "P9.2: one byte too many for the open one", l, bytesOf(4, 17), 4)
	sizes(t, "P9.2: one byte too many for the open one", l, 40, 12, 29)
	adds(t, "P9.2: too many for the open one", l, bytesOf(5, 28), 5)
	sizes(t, "P9.2: as many as there may be", l, 40, 12, 29, 40)
	was := seen(d)
	refuses(t, "P9.2: one byte too many", l, bytesOf(6, 29), api.ELIMIT)
	refuses(t, "P9.2: far too many", l, make([]byte, 1<<21), api.ELIMIT)
	same(t, "R3: what is too long", d, was)
	holds(t, "P9.2", l, nil, nil, bytesOf(2, 4), nil, bytesOf(4, 17), bytesOf(5, 28))
	named(t, "P9.2", d, "log.0", "log.1", "log.2", "log.3")
}

// TestEveryPair lets two frames, of any sizes, meet in one segment or in two.
func TestEveryPair(t *testing.T) {
	for size := 16; size <= 40; size++ {
		for first := 0; first <= size-12; first++ {
			for second := 0; second <= size-12; second++ {
				d := made(t, 1000)
				l := opened(t, d, "log", size)
				adds(t, "P9.2: the first", l, bytesOf(1, first), 0)
				adds(t, "P9.2: the second", l, bytesOf(2, second), 1)
				if first+second+24 <= size {
					sizes(t, "P9.2: both fit", l, first+second+24)
					counts(t, "P9.2: both fit", l, 2, 0)
				} else {
					sizes(t, "P9.2: they don't both fit", l, first+12, second+12)
					counts(t, "P9.2: they don't both fit", l, 2, 1)
				}
				if d.Writes() != 2 {
					t.Fatalf("P9.2: %d writes for two frames", d.Writes())
				}
			}
		}
	}
}

// TestAnotherSegmentSize opens a log with another size than it was written with.
func TestAnotherSegmentSize(t *testing.T) {
	d := made(t, 1000)
	l := opened(t, d, "log", 100)
	for i := range 7 {
		adds(t, "seven", l, []byte{byte(i)}, i)
	}
	l = opened(t, d, "log", 16)
	sizes(t, "P9.1: a segment of more bytes than one takes now", l, 91)
	adds(t, "P9.2: no room in it", l, nil, 7)
	sizes(t, "P9.2: no room in it", l, 91, 12)
	l = opened(t, d, "log", 1<<20)
	adds(t, "P9.2: there is room again", l, bytesOf(8, 60), 8)
	sizes(t, "P9.2: there is room again", l, 91, 84)
	fails(t, "P9.1: a first number above S - 12", d, "log", 71, api.EBROKEN)
	sizes(t, "P9.1: a first number that is S - 12", opened(t, d, "log", 72), 91, 84)
}

func TestAFullDisk(t *testing.T) {
	d := made(t, 60)
	l := opened(t, d, "log", 40)
	adds(t, "ahead", l, bytesOf(1, 8), 0)
	d.Fill(true)
	refuses(t, "P9.2: full", l, nil, api.EFULL)
	counts(t, "P9.2: full", l, 1, 0)
	sizes(t, "P9.2: full", l, 20)
	refuses(t, "P9.2: full, and a new segment", l, bytesOf(2, 20), api.EFULL)
	counts(t, "P9.2: full; but the open one was synced", l, 1, 1)
	sizes(t, "P9.2: full; a new segment is there", l, 20, 0)
	named(t, "P9.2: full; a new segment is there", d, "log.0", "log.1")
	refuses(t, "P9.2: still full", l, bytesOf(2, 20), api.EFULL)
	sizes(t, "P9.2: one new segment is enough", l, 20, 0)
	d.Fill(false)
	refuses(t, "P9.2: ELIMIT ahead of all", l, make([]byte, 29), api.ELIMIT)
	adds(t, "P9.2: room again", l, bytesOf(2, 20), 1)
	sizes(t, "P9.2: room again", l, 20, 32)
	refuses(t, "P9.2: a byte beyond the disk's limit, and a new segment", l, bytesOf(3, 9), api.EFULL)
	sizes(t, "P9.2: a byte beyond the disk's limit", l, 20, 32, 0)
	holds(t, "P9.2: behind a full disk", l, bytesOf(1, 8), bytesOf(2, 20))
	l = opened(t, d, "log", 40)
	sizes(t, "P9.1: behind a full disk", l, 20, 32, 0)
	holds(t, "P9.1: behind a full disk", l, bytesOf(1, 8), bytesOf(2, 20))
}

// TestATornFrame tears a frame at each of its bytes, in the open segment and in a new one.
func TestATornFrame(t *testing.T) {
	for _, size := range []int{40, 50} { // the second frame: in a segment of its own, or not
		for b := 0; b <= 26; b++ {
			d := made(t, 1000)
			l := opened(t, d, "log", size)
			first, second := bytesOf(1, 13), bytesOf(2, 13)
			adds(t, "the first", l, first, 0)
			before := l.Segments()
			d.Arm(1, b)
			refuses(t, "P9.2: a torn frame", l, second, api.EOFF)
			if l.Len() != 1 {
				t.Errorf("P9.2: %d payloads behind a torn frame", l.Len())
			}
			if size == 40 {
				before = append(before, 0)
			}
			sizes(t, "P9.3: Segments, as far as they are known", l, before...)
			fails(t, "P9.1: off", d, "log", size, api.EOFF)
			d.Start()
			l = opened(t, d, "log", size)
			want := [][]byte{first}
			if b >= 25 {
				want = append(want, second)
			}
			holds(t, "P9.5: behind a torn frame", l, want...)
			counts(t, "P9.1: all of them are safe", l, len(want), len(want))
			if d.Used() != 25*len(want) || d.Pending() != 0 {
				t.Errorf("P9.1: torn at %d, then %d bytes are left, %d pending", b, d.Used(), d.Pending())
			}
		}
	}
}

// TestNoFileIsLeft lets the disk have 256 files, so that it refuses the next segment.
func TestNoFileIsLeft(t *testing.T) {
	d := made(t, 1000)
	l := opened(t, d, "log", 30)
	for i := range 255 {
		lay(t, d, fmt.Sprint("f", i))
	}
	adds(t, "the first", l, bytesOf(1, 5), 0)
	refuses(t, "P9.2: the next segment is refused", l, bytesOf(2, 5), api.ELIMIT)
	counts(t, "P9.2: the open one was synced", l, 1, 1)
	sizes(t, "P9.2: there is no new segment", l, 17)
	adds(t, "P9.2: what fits into the open one", l, bytesOf(3, 1), 1)
	sizes(t, "P9.2: what fits into the open one", l, 30)
	counts(t, "P9.2: what fits into the open one", l, 2, 1)
	refuses(t, "P9.2: the next segment is refused", l, nil, api.ELIMIT)
	counts(t, "P9.2: the open one was synced", l, 2, 2)
	d.Remove("f7")
	adds(t, "P9.2: there is room for a file", l, bytesOf(4, 2), 2)
	holds(t, "P9.2: behind a refused segment", l, bytesOf(1, 5), bytesOf(3, 1), bytesOf(4, 2))
	sizes(t, "P9.2: behind a refused segment", l, 30, 14)
}

func TestAppendWhileTheDiskIsOff(t *testing.T) {
	d := made(t, 1000)
	l := opened(t, d, "log", 30)
	adds(t, "the first", l, bytesOf(1, 5), 0)
	d.Crash(17)
	refuses(t, "P9.2: off", l, nil, api.EOFF)
	refuses(t, "P9.2: off, and a new segment", l, bytesOf(2, 10), api.EOFF)
	refuses(t, "P9.2: off, and too long", l, bytesOf(2, 19), api.ELIMIT)
	wants(t, "P9.3: Sync while it is off", l.Sync(), api.EOFF)
	sizes(t, "P9.3: Segments while it is off", l, 17)
	if l.Len() != 1 {
		t.Errorf("P9.2: off, and %d payloads", l.Len())
	}
	named(t, "P9.2: off", d, "log.0")
	d.Start()
	safe(t, "P9.2: off", d, "log.0", 17, frameOf(bytesOf(1, 5)))
}

func TestSync(t *testing.T) {
	d := made(t, 1000, "other")
	l := opened(t, d, "log", 40)
	wants(t, "P9.3: Sync of nothing", l.Sync(), api.OK)
	d.Append("other", []byte{1})
	for i := range 6 {
		adds(t, "P9.3", l, bytesOf(i, i), i)
		if i%2 == 1 {
			wants(t, "P9.3: Sync", l.Sync(), api.OK)
			counts(t, "P9.3: Sync", l, i+1, i+1)
		}
	}
	if d.Pending() != 1 {
		t.Errorf("P9.3: Sync of the log leaves %d bytes pending, want that of another file alone", d.Pending())
	}
	d.Remove("log.1")
	d.Remove("log.2")
	wants(t, "P9.3: Sync, and its file is gone", l.Sync(), api.ENONE)
	d.Crash(0)
	wants(t, "P9.3: Sync while it is off", l.Sync(), api.EOFF)
}

func TestSynced(t *testing.T) {
	d := made(t, 1000)
	l := opened(t, d, "log", 60)
	counts(t, "P9.3: none", l, 0, 0)
	adds(t, "P9.3", l, nil, 0)
	adds(t, "P9.3", l, bytesOf(1, 8), 1)
	counts(t, "P9.3: Append syncs nothing", l, 2, 0)
	d.Sync("log.0")
	counts(t, "P9.3: another hand has synced", l, 2, 2)
	adds(t, "P9.3", l, nil, 2)
	counts(t, "P9.3: one more", l, 3, 2)
	adds(t, "P9.3: in a new segment", l, bytesOf(3, 20), 3)
	counts(t, "P9.3: the one ahead is safe", l, 4, 3)
	adds(t, "P9.3", l, nil, 4)
	d.Sync("log.0")
	counts(t, "P9.3: another segment is synced", l, 5, 3)
	wants(t, "P9.3: Sync", l.Sync(), api.OK)
	counts(t, "P9.3: Sync", l, 5, 5)
	adds(t, "P9.3: in a new segment", l, bytesOf(5, 48), 5)
	counts(t, "P9.3: the one ahead is safe", l, 6, 5)
	d.Turn("log.2", 50, 1)
	counts(t, "P9.3: a turned bit is as safe as it was", l, 6, 5)
	d.Turn("log.2", 50, 1)
	counts(t, "P9.1: Open makes all of them safe", opened(t, d, "log", 60), 6, 6)
	counts(t, "P9.3: by the hand of another log", l, 6, 6)
}

func TestAt(t *testing.T) {
	d := made(t, 1000)
	l := opened(t, d, "log", 40)
	nowhere := []int{math.MinInt, math.MinInt32, -1 << 32, -2, -1, 3, 4, 1 << 31, 1 << 32, math.MaxInt}
	for _, place := range append(slices.Clone(nowhere), 0) {
		if b, e := l.At(place); len(b) != 0 || e != api.EARG {
			t.Errorf("P9.3: At(%d) of none: %v %d", place, b, e)
		}
	}
	want := [][]byte{bytesOf(0, 9), nil, bytesOf(2, 28)}
	for i, p := range want {
		adds(t, "P9.3", l, p, i)
	}
	holds(t, "P9.3: At", l, want...)
	ask := func(what string, off bool) {
		for _, place := range nowhere {
			if b, e := l.At(place); len(b) != 0 || e != api.EARG {
				t.Errorf("P9.3: %s: At(%d): %v %d, want EARG", what, place, b, e)
			}
		}
		for place := range 3 {
			if b, e := l.At(place); off && (len(b) != 0 || e != api.EOFF) {
				t.Errorf("P9.3: %s: At(%d): %v %d, want EOFF", what, place, b, e)
			}
		}
	}
	ask("on", false)
	d.Turn("log.0", 12+4, 7) // the payload's fifth byte
	turned := bytes.Clone(want[0])
	turned[4] ^= 0x80
	holds(t, "P9.3: At tells what lies on the disk", l, turned, nil, want[2])
	d.Turn("log.1", 0, 0)
	holds(t, "P9.3: At tells what lies on the disk", l, turned, nil, want[2])
	d.Crash(1000)
	ask("off", true)
}

func TestSegmentsNeedNoDiskThatIsOn(t *testing.T) {
	d := made(t, 1000)
	l := opened(t, d, "log", 40)
	for i := range 5 {
		adds(t, "five", l, bytesOf(i, 3*i), i)
	}
	sizes(t, "P9.3: Segments", l, 27, 18+21, 24)
	d.Arm(1, 3)
	d.Append("log.2", []byte{1, 2, 3, 4})
	sizes(t, "P9.3: Segments while the disk is off", l, 27, 39, 24)
	if l.Len() != 5 {
		t.Errorf("P9.3: Len %d while the disk is off", l.Len())
	}
}

// TestUnsyncedAheadOfTheOpenOne: a segment that another hand has laid behind a log's makes that one full; Open makes its payloads safe too.
func TestUnsyncedAheadOfTheOpenOne(t *testing.T) {
	d := made(t, 1000)
	adds(t, "the first", opened(t, d, "log", 40), []byte{1, 2}, 0)
	d.Create("log.1")
	d.Append("log.1", frameOf([]byte{3}))
	l := opened(t, d, "log", 40)
	counts(t, "P9.1: all of them are safe", l, 2, 2)
	d.Crash(0)
	d.Start()
	holds(t, "P9.5: at least those that were safe", opened(t, d, "log", 40), []byte{1, 2}, []byte{3})
}

// TestALongLog fills a disk with frames of nothing.
func TestALongLog(t *testing.T) {
	d := made(t, api.MaxDisk)
	l := opened(t, d, "log", 8192)
	n := 0
	for {
		at, e := l.Append(nil)
		if e == api.EFULL {
			break
		}
		if at != n || e != api.OK {
			t.Fatalf("P9.2: %d, %v, want %d", at, e, n)
		}
		n++
	}
	if n != api.MaxDisk/12 {
		t.Errorf("P9.2: %d frames of nothing on a whole disk", n)
	}
	again := opened(t, d, "log", 8192)
	counts(t, "P9.1: a full disk", again, n, n)
	if !slices.Equal(again.Segments(), l.Segments()) {
		t.Error("P9.1: a full disk's segments")
	}
}

func TestTwoDisksHaveNothingInCommon(t *testing.T) {
	var disks [2]*disk.Disk
	var logs [2]*wal.Log
	for i := range disks {
		disks[i] = made(t, 1000)
		logs[i] = opened(t, disks[i], "log", 40)
	}
	was := seen(disks[1])
	adds(t, "one of two", logs[0], []byte{1}, 0)
	logs[0].Sync()
	disks[0].Crash(0)
	same(t, "R5: another disk", disks[1], was)
	counts(t, "R5: another log", logs[1], 0, 0)
	adds(t, "R5: another log", logs[1], []byte{2}, 0)
	holds(t, "R5: another log", logs[1], []byte{2})
}
