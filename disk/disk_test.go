package disk_test

import (
	"bytes"
	"math"
	"slices"
	"strings"
	"testing"

	"almoner/api"
	"almoner/disk"
)

// extremes are numbers that lie outside of every file.
var extremes = []int{math.MinInt, math.MinInt + 1, -(1 << 32), -2, -1, 1 << 20, 1 << 31, 1 << 32, 1 << 62, math.MaxInt - 1, math.MaxInt}

// TestExamples goes through the chapter's table, line by line.
func TestExamples(t *testing.T) {
	d := made(t, 20)
	none, e := disk.New(0)
	wants(t, "New(0)", e, api.EARG)
	if none != nil {
		t.Error("New(0): a disk beside the error")
	}
	wants(t, "Append of a file that is not there", d.Append("a", []byte{1}), api.ENONE)
	wants(t, "Create of no name", d.Create(""), api.EARG)
	wants(t, "Create a", d.Create("a"), api.OK)
	wants(t, "Create a again", d.Create("a"), api.EARG)
	named(t, "one file", d, "a")

	wants(t, "a 5", d.Append("a", []byte{1, 2, 3, 4, 5}), api.OK)
	wants(t, "Sync a", d.Sync("a"), api.OK)
	wants(t, "a 3", d.Append("a", []byte{6, 7, 8}), api.OK)
	wants(t, "Create b", d.Create("b"), api.OK)
	wants(t, "b 4", d.Append("b", []byte{11, 12, 13, 14}), api.OK)
	wants(t, "a 2", d.Append("a", []byte{9, 10}), api.OK)
	holds(t, "ten bytes", d, "a", 5, 1, 2, 3, 4, 5, 6, 7, 8, 9, 10)
	counts(t, "four writes", d, 14, 9, 4)

	wants(t, "b 7", d.Append("b", make([]byte, 7)), api.EFULL)
	wants(t, "Cut b", d.Cut("b", 5), api.EARG)
	_, e = d.Read("a", 9, 2)
	wants(t, "Read beyond", e, api.EARG)
	b, e := d.Read("a", 10, 0)
	if e != api.OK || len(b) != 0 {
		t.Errorf("Read of nothing at the end: %v %v", b, e)
	}

	d.Crash(4)
	_, e = d.Size("a")
	wants(t, "Size while it is off", e, api.EOFF)
	d.Start()
	holds(t, "behind Crash(4)", d, "a", 8, 1, 2, 3, 4, 5, 6, 7, 8)
	holds(t, "behind Crash(4)", d, "b", 1, 11)
	counts(t, "behind Crash(4)", d, 9, 0, 4)

	d.Fill(true)
	wants(t, "nothing, while it is full", d.Append("a", []byte{}), api.EFULL)
	d.Fill(false)
	wants(t, "nothing", d.Append("a", []byte{}), api.OK)

	wants(t, "Arm", d.Arm(2, 3), api.OK)
	wants(t, "the first", d.Append("a", []byte{1}), api.OK)
	wants(t, "the second", d.Append("b", []byte{21, 22, 23, 24, 25}), api.EOFF)
	if !d.Off() || d.Writes() != 7 {
		t.Errorf("a torn write: off %v, writes %d", d.Off(), d.Writes())
	}
	d.Start()
	holds(t, "behind a torn write", d, "b", 1, 11, 21, 22, 23)
	counts(t, "behind a torn write", d, 13, 4, 7)
	d.Crash(2)
	d.Start()
	holds(t, "behind Crash(2)", d, "a", 9, 1, 2, 3, 4, 5, 6, 7, 8, 1)
	holds(t, "behind Crash(2)", d, "b", 2, 11, 21)

	wants(t, "Turn beyond", d.Turn("a", 9, 0), api.EARG)
	wants(t, "Turn of the bit 8", d.Turn("a", 0, 8), api.EARG)
	wants(t, "Turn", d.Turn("b", 0, 7), api.OK)
	holds(t, "a turned bit", d, "b", 2, 139, 21)
	wants(t, "Remove c", d.Remove("c"), api.ENONE)
	wants(t, "Remove a", d.Remove("a"), api.OK)
	named(t, "one is left", d, "b")
}

func TestNewAndItsLimit(t *testing.T) {
	for _, limit := range append(slices.Clone(extremes), 0, 1<<20+1) {
		d, e := disk.New(limit)
		if limit == 1<<20 {
			continue
		}
		if e != api.EARG || d != nil {
			t.Errorf("P8.1: New(%d): %v %v, want none and EARG", limit, d, e)
		}
	}
	for _, limit := range []int{1, 2, 8192, 1<<20 - 1, 1 << 20} {
		d := made(t, limit)
		if d.Off() || len(d.Names()) != 0 {
			t.Errorf("P8.1: New(%d): off %v, names %q", limit, d.Off(), d.Names())
		}
		counts(t, "P8.1: a new disk", d, 0, 0, 0)
		d.Create("a")
		wants(t, "P8.3: a byte more than the limit", d.Append("a", make([]byte, limit+1)), api.EFULL)
		wants(t, "P8.3: as many as the limit", d.Append("a", make([]byte, limit)), api.OK)
		wants(t, "P8.3: one more", d.Append("a", make([]byte, 1)), api.EFULL)
		counts(t, "P8.3: at the limit", d, limit, limit, 1)
	}
}

// errnos calls all that answer an Errno and name a file, but Create, with arguments that may be (of a file of 4 bytes) or not.
func errnos(d *disk.Disk, name string, good bool) map[string]api.Errno {
	at, b := 3, []byte{1}
	if !good {
		at, b = 77, make([]byte, 2000)
	}
	_, size := d.Size(name)
	_, synced := d.Synced(name)
	_, read := d.Read(name, at, 1)
	l := map[string]api.Errno{
		"Size": size, "Synced": synced, "Read": read,
		"Turn":   d.Turn(name, at, 1),
		"Append": d.Append(name, b),
		"Sync":   d.Sync(name),
		"Cut":    d.Cut(name, at),
		"Remove": d.Remove(name),
	}
	return l
}

func TestOffAheadOfAllElse(t *testing.T) {
	d := made(t, 1000, "a", "b")
	d.Append("a", []byte{1, 2, 3, 4})
	d.Sync("a")
	d.Fill(true)
	d.Crash(0)
	for _, name := range []string{"a", "b", "none", "", strings.Repeat("x", 65)} {
		for _, good := range []bool{true, false} {
			for call, e := range errnos(d, name, good) {
				wants(t, "P8.1: off: "+call+" of "+name, e, api.EOFF)
			}
		}
		wants(t, "P8.1: off: Create "+name, d.Create(name), api.EOFF)
	}
	wants(t, "P8.1: off: Arm", d.Arm(1, 0), api.EOFF)
	wants(t, "P8.1: off: Arm that may not be", d.Arm(0, -1), api.EOFF)
	n, e := d.Size("a")
	m, f := d.Synced("a")
	b, g := d.Read("a", 0, 4)
	if n != 0 || m != 0 || len(b) != 0 || e != f || f != g {
		t.Errorf("R2: beside EOFF: %d %d %v", n, m, b)
	}
	d.Start()
	d.Fill(false)
	wants(t, "R3: an Arm that was refused", d.Append("b", []byte{5}), api.OK)
	named(t, "R3: what was refused", d, "a", "b")
	holds(t, "R3: what was refused", d, "a", 4, 1, 2, 3, 4)
	counts(t, "R3: what was refused", d, 5, 1, 2)
}

func TestNoneNext(t *testing.T) {
	d := made(t, 1000, "a")
	d.Append("a", []byte{1, 2, 3, 4})
	d.Fill(true)
	for _, name := range []string{"b", "A", "aa", "a\x00", "", strings.Repeat("x", 65)} {
		for _, good := range []bool{true, false} {
			for call, e := range errnos(d, name, good) {
				wants(t, "P8.1: no such file: "+call+" of "+name, e, api.ENONE)
			}
		}
	}
	n, e := d.Size("b")
	m, f := d.Synced("b")
	b, g := d.Read("b", 0, 0)
	if n != 0 || m != 0 || len(b) != 0 || e != f || f != g {
		t.Errorf("R2: beside ENONE: %d %d %v", n, m, b)
	}
	holds(t, "R3: what was refused", d, "a", 0, 1, 2, 3, 4)
	counts(t, "R3: what was refused", d, 4, 4, 1)
}

func TestCreateTakesNames(t *testing.T) {
	d := made(t, 10)
	long := strings.Repeat("x", 64)
	for _, name := range []string{"a", "\x00", "\xff", " ", "a b", "A", "..", "a/b", "\xc3\x28", "\xe2\x82\xac", "a\x00", long, long[1:]} {
		wants(t, "P8.2: Create "+name, d.Create(name), api.OK)
		wants(t, "P8.2: Create twice "+name, d.Create(name), api.EARG)
		if n, e := d.Size(name); n != 0 || e != api.OK {
			t.Errorf("P8.2: a new file %q has %d bytes, %v", name, n, e)
		}
	}
	before := d.Names()
	for _, name := range []string{"", long + "x", long + long, strings.Repeat("\x00", 65), strings.Repeat("é", 33), string(make([]byte, 1<<16))} {
		wants(t, "P8.2: Create, of bytes "+name, d.Create(name), api.EARG)
	}
	named(t, "R3: what was refused", d, before...)
	if n := len(before); n != 13 {
		t.Errorf("P8.2: %d files, want 13", n)
	}
}

func TestCreateUpTo256(t *testing.T) {
	d := made(t, 10)
	for i := range 256 {
		wants(t, "P8.2: a file", d.Create(string([]byte{'f', byte(i)})), api.OK)
	}
	wants(t, "P8.2: one more", d.Create("more"), api.ELIMIT)
	wants(t, "P8.2: one more, of no name", d.Create(""), api.EARG)
	wants(t, "P8.2: one more, of 65 bytes", d.Create(strings.Repeat("x", 65)), api.EARG)
	wants(t, "P8.2: one that is there", d.Create("f\x07"), api.EARG)
	if n := len(d.Names()); n != 256 {
		t.Errorf("P8.2: %d files, want 256", n)
	}
	wants(t, "P8.2: Remove", d.Remove("f\x07"), api.OK)
	wants(t, "P8.2: when one is gone", d.Create("more"), api.OK)
	wants(t, "P8.2: one more again", d.Create("f\x07"), api.ELIMIT)
	d.Crash(0)
	d.Start()
	wants(t, "P8.2: one more behind a crash", d.Create("f\x07"), api.ELIMIT)
	if n := len(d.Names()); n != 256 {
		t.Errorf("P8.2: %d files, want 256", n)
	}
}

// TestSafeAtOnce lets the disk crash right behind Create, Remove and Cut.
func TestSafeAtOnce(t *testing.T) {
	d := made(t, 100, "a", "b")
	d.Append("a", []byte{1, 2, 3})
	d.Append("b", []byte{4, 5, 6})
	d.Sync("a")
	d.Create("c")
	d.Remove("b")
	d.Cut("a", 1)
	d.Crash(math.MaxInt)
	named(t, "P8.2: behind a crash", d, "a", "c")
	counts(t, "P8.2: behind a crash", d, 1, 0, 2)
	d.Start()
	holds(t, "P8.2: Cut, behind a crash", d, "a", 1, 1)
	holds(t, "P8.2: Create, behind a crash", d, "c", 0)
}

func TestCut(t *testing.T) {
	whole := []byte{1, 2, 3, 4, 5, 6, 7}
	for n := range len(whole) + 1 {
		d := made(t, 100, "a", "b")
		d.Append("b", []byte{9})
		d.Append("a", whole[:3])
		d.Sync("a")
		d.Append("a", whole[3:5])
		d.Append("b", []byte{8})
		d.Append("a", whole[5:])
		for _, bad := range append(slices.Clone(extremes), 8) {
			wants(t, "P8.2: Cut beyond", d.Cut("a", bad), api.EARG)
		}
		holds(t, "R3: a Cut that was refused", d, "a", 3, whole...)
		wants(t, "P8.2: Cut", d.Cut("a", n), api.OK)
		holds(t, "P8.2: Cut", d, "a", min(n, 3), whole[:n]...)
		holds(t, "P8.2: Cut of another", d, "b", 0, 9, 8)
		counts(t, "P8.2: Cut", d, n+2, 2+max(n-3, 0), 5)
		wants(t, "P8.2: Append behind a Cut", d.Append("a", []byte{10}), api.OK)
		holds(t, "P8.2: Append behind a Cut", d, "a", min(n, 3), append(slices.Clone(whole[:n]), 10)...)
	}
}

func TestRemove(t *testing.T) {
	d := made(t, 10, "a", "b", "c")
	d.Append("a", []byte{1})
	d.Append("b", []byte{2, 3})
	d.Append("c", []byte{4})
	d.Append("b", []byte{5})
	d.Append("a", []byte{6, 7})
	wants(t, "P8.2: Remove", d.Remove("b"), api.OK)
	named(t, "P8.2: Remove", d, "a", "c")
	counts(t, "P8.2: Remove", d, 4, 4, 5)
	_, e := d.Size("b")
	wants(t, "P8.2: Size of what is gone", e, api.ENONE)
	wants(t, "P8.2: Remove again", d.Remove("b"), api.ENONE)
	wants(t, "P8.2: Create again", d.Create("b"), api.OK)
	holds(t, "P8.2: what is made again is empty", d, "b", 0)
	wants(t, "P8.3: there is room for six again", d.Append("b", []byte{8, 9, 10, 11, 12, 13}), api.OK)
	d.Crash(3)
	d.Start()
	holds(t, "P8.7: the first three of those that are left", d, "a", 2, 1, 6)
	holds(t, "P8.7: the first three of those that are left", d, "c", 1, 4)
	holds(t, "P8.7: the first three of those that are left", d, "b", 0)
}

func TestAppend(t *testing.T) {
	d := made(t, 10, "a", "b")
	wants(t, "P8.3: Append", d.Append("a", []byte{1, 2, 3, 4, 5, 6}), api.OK)
	wants(t, "P8.3: one byte too many", d.Append("b", make([]byte, 5)), api.EFULL)
	wants(t, "P8.3: far too many", d.Append("b", make([]byte, 1<<21)), api.EFULL)
	counts(t, "P8.3: nothing is written", d, 6, 6, 1)
	wants(t, "P8.3: nil", d.Append("b", nil), api.OK)
	wants(t, "P8.3: nothing", d.Append("b", []byte{}), api.OK)
	holds(t, "P8.3: nothing", d, "b", 0)
	counts(t, "P8.3: nothing is a write too", d, 6, 6, 3)
	wants(t, "P8.3: just what there is room for", d.Append("b", []byte{7, 8, 9, 10}), api.OK)
	wants(t, "P8.3: nothing, at the limit", d.Append("a", nil), api.OK)
	wants(t, "P8.3: a byte, at the limit", d.Append("a", []byte{11}), api.EFULL)
	holds(t, "P8.3: Append", d, "a", 0, 1, 2, 3, 4, 5, 6)
	holds(t, "P8.3: Append", d, "b", 0, 7, 8, 9, 10)
	counts(t, "P8.3: at the limit", d, 10, 10, 5)
	d.Cut("a", 5)
	wants(t, "P8.3: room again", d.Append("b", []byte{11}), api.OK)
	wants(t, "P8.3: and no more", d.Append("b", []byte{12}), api.EFULL)
}

func TestFill(t *testing.T) {
	d := made(t, 10, "a")
	d.Append("a", []byte{1})
	d.Fill(true)
	for _, b := range [][]byte{nil, {}, {2}, make([]byte, 9), make([]byte, 10)} {
		wants(t, "P8.3: behind Fill(true)", d.Append("a", b), api.EFULL)
	}
	counts(t, "P8.3: nothing is written", d, 1, 1, 1)
	wants(t, "P8.6: Sync of a full one", d.Sync("a"), api.OK)
	wants(t, "P8.6: Create on a full one", d.Create("b"), api.OK)
	wants(t, "P8.6: Turn on a full one", d.Turn("a", 0, 1), api.OK)
	d.Fill(true)
	d.Crash(0)
	d.Start()
	wants(t, "P8.6: full behind a crash", d.Append("a", nil), api.EFULL)
	d.Crash(0)
	d.Fill(false)
	d.Start()
	wants(t, "P8.6: Fill(false) while it was off", d.Append("a", []byte{2}), api.OK)
	d.Crash(9)
	d.Fill(true)
	d.Start()
	wants(t, "P8.6: Fill(true) while it was off", d.Append("a", []byte{2}), api.EFULL)
	wants(t, "P8.2: Cut on a full one", d.Cut("a", 0), api.OK)
	wants(t, "P8.6: full, whatever its room", d.Append("a", nil), api.EFULL)
	d.Fill(false)
	wants(t, "P8.6: it has room", d.Append("a", make([]byte, 10)), api.OK)
}

func TestSyncIsOfOneFile(t *testing.T) {
	d := made(t, 100, "a", "b")
	d.Append("a", []byte{1, 2})
	d.Append("b", []byte{3})
	d.Append("a", []byte{4})
	wants(t, "P8.5: Sync", d.Sync("a"), api.OK)
	holds(t, "P8.5: Sync", d, "a", 3, 1, 2, 4)
	holds(t, "P8.5: Sync of another", d, "b", 0, 3)
	counts(t, "P8.5: Sync", d, 4, 1, 3)
	wants(t, "P8.5: Sync again", d.Sync("a"), api.OK)
	d.Append("a", []byte{5})
	holds(t, "P8.5: Append behind Sync", d, "a", 3, 1, 2, 4, 5)
	d.Crash(1)
	d.Start()
	holds(t, "P8.7: the other's byte was first", d, "b", 1, 3)
	holds(t, "P8.7: what was safe", d, "a", 3, 1, 2, 4)
}

func TestReadAtItsEdges(t *testing.T) {
	d := made(t, 100, "a", "empty")
	whole := []byte{1, 2, 3, 4, 5}
	d.Append("a", whole[:2])
	d.Sync("a")
	d.Append("a", whole[2:])
	for at := range 8 {
		for n := range 8 {
			b, e := d.Read("a", at, n)
			if at+n > 5 {
				if e != api.EARG || len(b) != 0 {
					t.Errorf("P8.5: Read(a, %d, %d): %v %v, want EARG", at, n, b, e)
				}
			} else if e != api.OK || !bytes.Equal(b, whole[at:at+n]) {
				t.Errorf("P8.5: Read(a, %d, %d): %v %v, want %v", at, n, b, e, whole[at:at+n])
			}
		}
	}
	for _, x := range extremes {
		for _, y := range append(slices.Clone(extremes), 0, 1, 5, 6) {
			for _, name := range []string{"a", "empty"} {
				b, e := d.Read(name, x, y)
				c, f := d.Read(name, y, x)
				if e != api.EARG || f != api.EARG || len(b)+len(c) != 0 {
					t.Errorf("P8.5: Read(%s, %d, %d), and turned round: %v %v, want EARG", name, x, y, e, f)
				}
			}
		}
	}
	if b, e := d.Read("empty", 0, 0); e != api.OK || len(b) != 0 {
		t.Errorf("P8.5: Read of an empty file: %v %v", b, e)
	}
}

func TestTurn(t *testing.T) {
	d := made(t, 100, "a", "empty")
	whole := []byte{0, 255, 0x5a, 7}
	d.Append("a", whole[:2])
	d.Sync("a")
	d.Append("a", whole[2:])
	for at := range whole {
		for bit, value := range []byte{1, 2, 4, 8, 16, 32, 64, 128} {
			wants(t, "P8.5: Turn", d.Turn("a", at, uint(bit)), api.OK)
			want := slices.Clone(whole)
			want[at] ^= value
			holds(t, "P8.5: Turn", d, "a", 2, want...)
			wants(t, "P8.5: Turn back", d.Turn("a", at, uint(bit)), api.OK)
			holds(t, "P8.5: Turn back", d, "a", 2, whole...)
		}
	}
	for _, bit := range []uint{8, 9, 255, 256, 1 << 32, math.MaxUint} {
		wants(t, "P8.5: Turn of no bit", d.Turn("a", 0, bit), api.EARG)
	}
	for _, at := range append(slices.Clone(extremes), 4) {
		wants(t, "P8.5: Turn beyond", d.Turn("a", at, 0), api.EARG)
	}
	wants(t, "P8.5: Turn of an empty file", d.Turn("empty", 0, 0), api.EARG)
	holds(t, "R3: a Turn that was refused", d, "a", 2, whole...)
	d.Turn("a", 3, 7)
	d.Turn("a", 0, 0)
	counts(t, "P8.5: what is pending stays so", d, 4, 2, 2)
	d.Crash(2)
	d.Start()
	holds(t, "P8.5: turned bytes behind a crash", d, "a", 4, 1, 255, 0x5a, 135)
}

func TestNamesInTheirOrder(t *testing.T) {
	want := []string{"\x00", "\x00\x00", " ", "A", "Z", "a", "a\x00", "a ", "aa", "ab", "b", "b0", "b10", "b9", "\x7f", "\x80", "\xc3\xa9", "\xff", "\xff\xff"}
	for turn := range len(want) {
		d := made(t, 10, "gone", "\xff\xfe")
		for i := range want {
			d.Create(want[(i*7+turn)%len(want)])
			if i == turn {
				d.Remove("gone")
			}
		}
		d.Remove("\xff\xfe")
		named(t, "P8.6: Names", d, want...)
		d.Crash(0)
		named(t, "P8.6: Names while it is off", d, want...)
	}
	if l := made(t, 10).Names(); len(l) != 0 {
		t.Errorf("P8.6: names of no files: %q", l)
	}
}
