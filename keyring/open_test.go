package keyring_test

import (
	"bytes"
	"slices"
	"strconv"
	"strings"
	"testing"

	"almoner/api"
	"almoner/keyring"
	"almoner/lamport"
	"almoner/wal"
)

// badConfigs tells such as may not be, each for one thing alone.
func badConfigs() map[string]api.Config {
	l := map[string]api.Config{"all zeros": {}}
	bad := func(what string, turn func(c *api.Config)) {
		c := examples()
		c.Staff = []api.Staff{{Actor: 1, Role: api.RoleClerk}, {Actor: 2, Role: api.RolePatient}}
		turn(&c)
		l[what] = c
	}
	bad("width 0", func(c *api.Config) { c.Width = 0 })
	bad("width -1", func(c *api.Config) { c.Width = -1 })
	bad("width 33", func(c *api.Config) { c.Width = 33 })
	bad("height -1", func(c *api.Config) { c.Height = -1 })
	bad("height 7", func(c *api.Config) { c.Height = 7 })
	bad("no seed", func(c *api.Config) { c.Seed = nil })
	bad("a seed of no bytes", func(c *api.Config) { c.Seed = []byte{} })
	bad("a seed of 65 bytes", func(c *api.Config) { c.Seed = make([]byte, 65) })
	bad("an actor twice", func(c *api.Config) { c.Staff[1].Actor = 1 })
	bad("an actor 0", func(c *api.Config) { c.Staff[0].Actor = 0 })
	bad("a role 0", func(c *api.Config) { c.Staff[0].Role = 0 })
	bad("a role 6", func(c *api.Config) { c.Staff[0].Role = 6 })
	bad("65 people", func(c *api.Config) { c.Staff = crowd(65) })
	bad("segment 8191", func(c *api.Config) { c.Segment = 8191 })
	bad("segment -1", func(c *api.Config) { c.Segment = -1 })
	bad("segment 15, which wal refuses", func(c *api.Config) { c.Segment = 15 })
	bad("a segment above the disk", func(c *api.Config) { c.Segment = 8193 })
	bad("segment 2^20 + 1, which wal refuses", func(c *api.Config) { c.Segment, c.Disk = 1<<20+1, 1<<20+1 })
	bad("disk 8191", func(c *api.Config) { c.Disk = 8191 })
	bad("disk 2^20 + 1", func(c *api.Config) { c.Disk = 1<<20 + 1 })
	return l
}

func crowd(n uint32) []api.Staff {
	var l []api.Staff
	for i := range n {
		l = append(l, api.Staff{Actor: i + 1, Role: api.RolePatient})
	}
	return l
}

func TestOpenWithABadConfig(t *testing.T) {
	for what, c := range badConfigs() {
		d := newDisk(t, 8192)
		fails(t, what, c, d, "keys", api.EARG)
		if len(d.Names()) != 0 {
			t.Errorf("R3: %s: Open has made %v", what, d.Names())
		}
		d.Crash(0)
		fails(t, what+", ahead of the disk that is off", c, d, "keys", api.EARG)
		d.Start()
		d.Create("keys.0")
		d.Append("keys.0", make([]byte, 12))
		was := laid(d)
		fails(t, what+", ahead of a log that is broken", c, d, "keys", api.EARG)
		if laid(d) != was {
			t.Errorf("R3: %s: Open has changed the disk", what)
		}
	}
}

func TestOpenWithConfigsAtTheEdge(t *testing.T) {
	for what, turn := range map[string]func(c *api.Config){
		"width 1":                   func(c *api.Config) { c.Width = 1 },
		"width 32":                  func(c *api.Config) { c.Width = 32 },
		"height 0":                  func(c *api.Config) { c.Height = 0 },
		"height 6":                  func(c *api.Config) { c.Height = 6 },
		"a seed of 64 bytes":        func(c *api.Config) { c.Seed = make([]byte, 64) },
		"64 people":                 func(c *api.Config) { c.Staff = crowd(64) },
		"segment 8192 of disk 2^20": func(c *api.Config) { c.Disk = 1 << 20 },
		"segment 2^20 of disk 2^20": func(c *api.Config) { c.Segment, c.Disk = 1<<20, 1<<20 },
	} {
		c := examples()
		turn(&c)
		r, d := fresh(t, c)
		h := wide(c.Width, 5, 9)
		signs(t, c, r, h, 0)
		holds(t, what, r, 1<<c.Height-1, h)
		if seen(opened(t, c, d)) != seen(r) {
			t.Errorf("P13.1: a ring with %s is another one when it is opened again", what)
		}
	}
}

func TestOpenAnswersWhatWalDoes(t *testing.T) {
	c := examples()
	for what, name := range map[string]string{"no name": "", "a name of 33 bytes": strings.Repeat("n", 33), "a name of 100 bytes": strings.Repeat("n", 100)} {
		d := newDisk(t, 8192)
		fails(t, what, c, d, name, api.EARG)
		if len(d.Names()) != 0 {
			t.Errorf("R3: %s: Open has made %v", what, d.Names())
		}
		d.Crash(0)
		fails(t, what+", ahead of the disk that is off", c, d, name, api.EARG)
	}
	for _, name := range []string{"k", strings.Repeat("n", 32), "\x00", "a.0"} {
		if r, e := keyring.Open(c, newDisk(t, 8192), name); r == nil || e != api.OK {
			t.Errorf("P13.1: a log of the name %q: %d", name, e)
		}
	}

	d := newDisk(t, 8192)
	d.Crash(0)
	fails(t, "the disk is off", c, d, "keys", api.EOFF)
	d.Start()
	holds(t, "the disk is on again", opened(t, c, d), 2)

	d = newDisk(t, 8192)
	for i := range 256 {
		d.Create("other" + strconv.Itoa(i))
	}
	fails(t, "no file can be made", c, d, "keys", api.ELIMIT)
	d.Remove("other7")
	holds(t, "a file can be made again", opened(t, c, d), 2)

	d = newDisk(t, 8192)
	d.Fill(true) // a file without bytes needs no room
	holds(t, "a full disk", opened(t, c, d), 2)
}

// TestOpenTakesTheSegment: of the last frame the end is missing; but whether there may be one of such a length, the segment's size says.
func TestOpenTakesTheSegment(t *testing.T) {
	for _, size := range []int{8192, 8999, 9011, 9012, 9013, 20000} {
		c := examples()
		c.Segment, c.Disk = size, 65536
		d := lay(t, bytesOf(t, head(1, 1)))
		d.Append("keys.0", []byte{0, 0, 0x23, 0x28, 0xff, 0xff, 0xdc, 0xd7, 0, 0, 0, 0, 7}) // of 9000 bytes
		if size < 9012 {
			fails(t, "a frame that no segment takes", c, d, "keys", api.EBROKEN)
			continue
		}
		holds(t, "a torn end", opened(t, c, d), 1, head(1, 1))
	}
}

func TestOpenABrokenLog(t *testing.T) {
	c := sized(2, 2)
	r, d := fresh(t, c)
	for i := range uint32(3) {
		signs(t, c, r, head(i, byte(i)), int(i))
	}
	want := seen(r)
	size, _ := d.Size("keys.0")
	for at := range size {
		for bit := range uint(8) {
			d.Turn("keys.0", at, bit)
			was := laid(d)
			fails(t, "a bit is turned", c, d, "keys", api.EBROKEN)
			if laid(d) != was {
				t.Error("R3: Open has changed a log that is broken")
			}
			d.Turn("keys.0", at, bit)
		}
	}
	if seen(opened(t, c, d)) != want {
		t.Error("P13.1: turned back, it is another one")
	}

	d.Cut("keys.0", size-1)
	d.Create("keys.1")
	fails(t, "a segment that is not open is torn", c, d, "keys", api.EBROKEN)
}

// rising tells n heads of sizes that rise.
func rising(n, width int) []api.Head {
	var l []api.Head
	for i := range n {
		l = append(l, wide(width, uint32(i*i+3), byte(i)))
	}
	return l
}

// TestOpenAsManyAsKeys: as many payloads as keys, one less, and one more.
func TestOpenAsManyAsKeys(t *testing.T) {
	for height := range 7 {
		c, n := sized(1, height), 1<<height
		l := rising(n+2, 1)
		holds(t, "one less than keys", opened(t, c, lay(t, allBytes(t, l[:n-1]...)...)), 1, l[:n-1]...)
		r := opened(t, c, lay(t, allBytes(t, l[:n]...)...))
		holds(t, "as many as keys", r, 0, l[:n]...)
		signs(t, c, r, l[0], 0)
		signs(t, c, r, l[n-1], n-1)
		refuses(t, "as many as keys", r, l[n], api.EKEYS)
		for more := 1; more <= 2; more++ {
			d := lay(t, allBytes(t, l[:n+more]...)...)
			was := laid(d)
			fails(t, "more than keys", c, d, "keys", api.EBROKEN)
			if laid(d) != was {
				t.Error("R3: Open has changed a log of too many payloads")
			}
		}
	}
}

// TestOpenPayloadsThatAreNoHeads: alone, ahead of heads, and behind them.
func TestOpenPayloadsThatAreNoHeads(t *testing.T) {
	c := sized(2, 3)
	good := allBytes(t, rising(5, 2)...)
	long := make([]byte, 9+33)
	copy(long, []byte{4, 0, 0, 0, 9, 0, 0, 0, 33})
	bads := [][]byte{
		nil, {4}, {4, 0, 0}, {5, 0, 0, 0, 9, 0, 0, 0, 2, 1, 1}, {4, 0, 0, 0, 9, 0, 0, 0, 0}, {4, 0, 0, 0, 9, 0, 0, 0, 2, 1},
		{4, 0, 0, 0, 9, 0, 0, 0, 2, 1, 1, 0}, {0, 0, 0, 9, 0, 0, 0, 2, 1, 1}, long, make([]byte, 11), make([]byte, 100),
		bytesOf(t, wide(1, 9, 1)), bytesOf(t, wide(3, 9, 1)), bytesOf(t, wide(32, 9, 1)), // heads, but of other widths
	}
	for i, bad := range bads {
		for at := range len(good) + 1 {
			l := slices.Insert(slices.Clone(good), at, bad)
			what := "no head's bytes, or another width's, " + strconv.Itoa(i) + " at " + strconv.Itoa(at)
			fails(t, what, c, lay(t, l...), "keys", api.EBROKEN)
			fails(t, what+", the last one", c, lay(t, l[:at+1]...), "keys", api.EBROKEN)
		}
		fails(t, "no head's bytes, or another width's, "+strconv.Itoa(i)+" alone", c, lay(t, bad), "keys", api.EBROKEN)
	}
	holds(t, "without them", opened(t, c, lay(t, good...)), 3, rising(5, 2)...)
}

// TestOpenRootsOfEachWidth: a head is taken just by a ring of its root's width.
func TestOpenRootsOfEachWidth(t *testing.T) {
	for width := 1; width <= 32; width++ {
		d := lay(t, bytesOf(t, wide(width, 1, 7)))
		for other := 1; other <= 32; other++ {
			if other != width {
				fails(t, "a root of another width", sized(other, 0), d, "keys", api.EBROKEN)
			}
		}
		holds(t, "a root of its width", opened(t, sized(width, 0), d), 0, wide(width, 1, 7))
	}
}

// TestOpenSizesThatDoNotRise goes through all lists of three sizes out of some.
func TestOpenSizesThatDoNotRise(t *testing.T) {
	c := sized(2, 2)
	sizes := []uint32{0, 1, 2, 255, 256, 1 << 31, 1<<32 - 1}
	for _, i := range sizes {
		for _, j := range sizes {
			for _, k := range sizes {
				l := []api.Head{head(i, 3), head(j, 3), head(k, 4)}
				d := lay(t, allBytes(t, l...)...)
				if i < j && j < k {
					holds(t, "sizes that rise", opened(t, c, d), 1, l...)
				} else {
					fails(t, "sizes that do not rise", c, d, "keys", api.EBROKEN)
				}
			}
		}
	}
}

// TestOpenATornEnd: what is torn is cut off, at whatever byte.
func TestOpenATornEnd(t *testing.T) {
	c := sized(2, 2)
	l := rising(3, 2)
	frame := frameAhead + len(bytesOf(t, l[0]))
	for size := range 3*frame + 1 {
		d := lay(t, allBytes(t, l...)...)
		d.Cut("keys.0", size)
		whole := size / frame
		holds(t, "a torn end", opened(t, c, d), 4-whole, l[:whole]...)
		if now, _ := d.Size("keys.0"); now != whole*frame {
			t.Errorf("P13.1: a torn end of %d bytes, cut to %d", size, now)
		}
		r := opened(t, c, d)
		signs(t, c, r, head(1000, 5), whole)
		if seen(opened(t, c, d)) != seen(r) {
			t.Error("P13.1: behind a torn end a ring is another one when it is opened again")
		}
	}
}

// TestOpenMakesSafe: what lies in a log that nobody has synced is safe when it is bound.
func TestOpenMakesSafe(t *testing.T) {
	d := newDisk(t, 8192)
	l, _ := wal.Open(d, "keys", 8192)
	l.Append(bytesOf(t, head(3, 7)))
	r := opened(t, examples(), d)
	want := signs(t, examples(), r, head(3, 7), 0)
	d.Crash(0)
	d.Start()
	r = opened(t, examples(), d)
	if got := signs(t, examples(), r, head(3, 7), 0); !sameSigned(got, want) {
		t.Error("P13.1: a crash has taken a head that was signed")
	}
}

// TestOpenSeveralSegments: the log may have been laid with shorter ones.
func TestOpenSeveralSegments(t *testing.T) {
	c := sized(2, 3)
	d := newDisk(t, 8192)
	l, _ := wal.Open(d, "keys", 50)
	heads := rising(7, 2)
	for _, h := range heads {
		l.Append(bytesOf(t, h))
	}
	if len(l.Segments()) < 3 {
		t.Fatal("too few segments")
	}
	r := opened(t, c, d)
	holds(t, "several segments", r, 1, heads...)
	signs(t, c, r, head(1000, 1), 7)
	holds(t, "several segments, opened again", opened(t, c, d), 0, append(heads, head(1000, 1))...)
}

// TestPublic holds it against lamport's keys.
func TestPublic(t *testing.T) {
	known := map[string]string{}
	for _, width := range []int{1, 2, 3, 7, 20, 31, 32} {
		for height := range 7 {
			if height == 6 && width != 1 && width != 32 {
				continue
			}
			for _, seed := range [][]byte{{1}, {2}, bytes.Repeat([]byte{9}, 64)} {
				c := sized(width, height)
				c.Seed = seed
				r, _ := fresh(t, c)
				k, _ := lamport.New(width, height, seed)
				if !bytes.Equal(r.Public(), k.Public()) || len(r.Public()) != width {
					t.Errorf("P13.1: Public of width %d, height %d, seed %x: %x, want %x", width, height, seed, r.Public(), k.Public())
				}
				if width >= 20 {
					known[string(r.Public())] = ""
				}
				holds(t, "a new ring", r, 1<<height)
			}
		}
	}
	if len(known) != 3*(6+6+7) {
		t.Errorf("P13.1: %d public hashes, want %d", len(known), 3*19)
	}
}
