package store_test

import (
	"bytes"
	"slices"
	"strconv"
	"strings"
	"testing"

	"almoner/api"
	"almoner/disk"
	"almoner/record"
	"almoner/store"
	"almoner/wal"
)

// badConfigs tells such as may not be, each for one thing alone.
func badConfigs() map[string]api.Config {
	l := map[string]api.Config{"all zeros": {}}
	bad := func(what string, turn func(c *api.Config)) {
		c := examples()
		turn(&c)
		l[what] = c
	}
	bad("width 0", func(c *api.Config) { c.Width = 0 })
	bad("width 33", func(c *api.Config) { c.Width = 33 })
	bad("height -1", func(c *api.Config) { c.Height = -1 })
	bad("height 7", func(c *api.Config) { c.Height = 7 })
	bad("no seed", func(c *api.Config) { c.Seed = nil })
	bad("a seed of 65 bytes", func(c *api.Config) { c.Seed = make([]byte, 65) })
	bad("an actor twice", func(c *api.Config) { c.Staff[1].Actor = 1 })
	bad("an actor 0", func(c *api.Config) { c.Staff[0].Actor = 0 })
	bad("a role 6", func(c *api.Config) { c.Staff[0].Role = 6 })
	bad("segment 8191", func(c *api.Config) { c.Segment = 8191 })
	bad("segment 0", func(c *api.Config) { c.Segment = 0 })
	bad("segment 15, which wal refuses", func(c *api.Config) { c.Segment = 15 })
	bad("a segment above the disk", func(c *api.Config) { c.Segment = 65537 })
	bad("a segment that wal refuses", func(c *api.Config) { c.Segment, c.Disk = 1<<20+1, 1<<20+1 })
	bad("disk 8191", func(c *api.Config) { c.Disk = 8191 })
	bad("disk 2^20 + 1", func(c *api.Config) { c.Disk = 1<<20 + 1 })
	return l
}

func TestOpenWithABadConfig(t *testing.T) {
	for what, c := range badConfigs() {
		d := newDisk(t, 65536)
		fails(t, what, c, d, "log", api.EARG)
		if len(d.Names()) != 0 {
			t.Errorf("R3: %s: Open has made %v", what, d.Names())
		}
		d.Crash(0)
		fails(t, what+", ahead of the disk that is off", c, d, "log", api.EARG)
		d.Start()
		d.Create("log.0")
		d.Append("log.0", make([]byte, 12))
		fails(t, what+", ahead of a log that is broken", c, d, "log", api.EARG)
	}
}

func TestOpenWithConfigsAtTheEdge(t *testing.T) {
	crowd := make([]api.Staff, 64)
	for i := range crowd {
		crowd[i] = api.Staff{Actor: uint32(i + 1), Role: api.RolePatient}
	}
	for what, turn := range map[string]func(c *api.Config){
		"width 1":                   func(c *api.Config) { c.Width = 1 },
		"width 32":                  func(c *api.Config) { c.Width = 32 },
		"height 6":                  func(c *api.Config) { c.Height = 6 },
		"a seed of 64 bytes":        func(c *api.Config) { c.Seed = make([]byte, 64) },
		"no staff":                  func(c *api.Config) { c.Staff = nil },
		"64 people":                 func(c *api.Config) { c.Staff = crowd },
		"segment 8192 of disk 8192": func(c *api.Config) { c.Segment, c.Disk = 8192, 8192 },
		"segment 2^20 of disk 2^20": func(c *api.Config) { c.Segment, c.Disk = 1<<20, 1<<20 },
	} {
		c := examples()
		turn(&c)
		s, d := fresh(t, c)
		place, a, again, e := s.Do(creates(1))
		want := record.Answers(c.Staff, []api.Request{creates(1)})[0]
		if place != 0 || !sameAnswer(a, want) || again || e != api.OK {
			t.Errorf("P12.1: a store with %s: %d, %+v, %v, %d", what, place, a, again, e)
		}
		if ev := event(t, s, 0); len(ev.Digest) != c.Width {
			t.Errorf("P12.1: a store with %s: the digest has %d bytes", what, len(ev.Digest))
		}
		if seen(opened(t, c, d)) != seen(s) {
			t.Errorf("P12.1: a store with %s is another one when it is opened again", what)
		}
	}
}

// TestOpenTakesTheSegment: the log's segments take the Config's bytes.
func TestOpenTakesTheSegment(t *testing.T) {
	for _, size := range []int{8192, 9000, 20000} {
		c := examples()
		c.Segment = size
		s, d := fresh(t, c)
		for i := range uint32(250) {
			tell(t, s, creates(i))
		}
		l, e := wal.Open(d, "log", size)
		if e != api.OK {
			t.Fatal(e)
		}
		frame := 12 + len(entry(t, s, 0))
		for i, n := range l.Segments() {
			if n > size || i < len(l.Segments())-1 && n+frame <= size {
				t.Errorf("P12.1: the segment %d of %d bytes has %d", i, size, n)
			}
		}
	}
}

func TestOpenAnswersWhatWalDoes(t *testing.T) {
	c := examples()
	for what, name := range map[string]string{"no name": "", "a name of 33 bytes": strings.Repeat("n", 33), "a name of 100 bytes": strings.Repeat("n", 100)} {
		d := newDisk(t, 65536)
		fails(t, what, c, d, name, api.EARG)
		d.Crash(0)
		fails(t, what+", ahead of the disk that is off", c, d, name, api.EARG)
	}
	for _, name := range []string{"l", strings.Repeat("n", 32), "\x00", "a.0"} {
		if s, e := store.Open(c, newDisk(t, 65536), name); s == nil || e != api.OK {
			t.Errorf("P12.1: a log of the name %q: %d", name, e)
		}
	}

	d := newDisk(t, 65536)
	d.Crash(0)
	fails(t, "the disk is off", c, d, "log", api.EOFF)
	d.Start()
	if opened(t, c, d).Len() != 0 {
		t.Error("P12.1: the disk is on again")
	}

	d = newDisk(t, 65536)
	for i := range 256 {
		d.Create("other" + strconv.Itoa(i))
	}
	fails(t, "no file can be made", c, d, "log", api.ELIMIT)
	d.Remove("other7")
	if opened(t, c, d).Len() != 0 {
		t.Error("P12.1: a file can be made again")
	}

	d = newDisk(t, 65536)
	d.Fill(true) // a file without bytes needs no room
	if opened(t, c, d).Len() != 0 {
		t.Error("P12.1: a full disk")
	}
}

func TestOpenABrokenLog(t *testing.T) {
	s, d := fresh(t, examples())
	tell(t, s, story()...)
	want := seen(s)
	size, _ := d.Size("log.0")
	for at := 0; at < size; at += 7 {
		d.Turn("log.0", at, uint(at%8))
		was := laid(d)
		fails(t, "a bit is turned", examples(), d, "log", api.EBROKEN)
		if laid(d) != was {
			t.Error("R3: Open has changed a log that is broken")
		}
		d.Turn("log.0", at, uint(at%8))
	}
	if seen(opened(t, examples(), d)) != want {
		t.Error("P12.1: turned back, it is another one")
	}
}

// TestOpenPayloadsThatAreNoEvents: alone, behind events, and ahead of events.
func TestOpenPayloadsThatAreNoEvents(t *testing.T) {
	s, _ := fresh(t, examples())
	tell(t, s, story()...)
	l := entries(t, s)
	head := []byte{4, 0, 0, 0, 1, 0, 0, 0, 1, 7}
	longer := append(bytes.Clone(l[2]), 0)
	op := bytes.Clone(l[2])
	op[17] = 9
	bads := [][]byte{nil, {}, {3}, head, l[2][1:], l[2][:len(l[2])-1], longer, op, make([]byte, 100)}
	for i, bad := range bads {
		for _, at := range []int{0, 2, 19} {
			payloads := slices.Clone(l)
			payloads[at] = bad
			fails(t, "no event's bytes, "+strconv.Itoa(i), examples(), lay(t, 65536, payloads...), "log", api.EBROKEN)
			fails(t, "no event's bytes, "+strconv.Itoa(i)+", at the end", examples(), lay(t, 65536, payloads[:at+1]...), "log", api.EBROKEN)
		}
		fails(t, "no event's bytes, "+strconv.Itoa(i)+", alone", examples(), lay(t, 65536, bad), "log", api.EBROKEN)
		fails(t, "no event's bytes, "+strconv.Itoa(i)+", behind all", examples(), lay(t, 65536, append(slices.Clone(l), bad)...), "log", api.EBROKEN)
	}
	if opened(t, examples(), lay(t, 65536, l...)).Len() != len(l) {
		t.Error("P12.1: laid by another hand, and right")
	}
}

// wrongs tells events that are not right at the place of one that is, each turned in one part; first is that of the place 0.
func wrongs(right, first api.Event) map[string]api.Event {
	l := map[string]api.Event{}
	wrong := func(what string, turn func(ev *api.Event)) {
		ev := right
		ev.Digest = bytes.Clone(right.Digest)
		ev.Request.Fields = slices.Clone(right.Request.Fields)
		turn(&ev)
		l[what] = ev
	}
	wrong("an id that was there", func(ev *api.Event) { ev.Request.Id = first.Request.Id })
	wrong("another id", func(ev *api.Event) { ev.Request.Id.Number += 1000 })
	wrong("another client", func(ev *api.Event) { ev.Request.Id.Client += 1000 })
	wrong("another code", func(ev *api.Event) { ev.Code = (ev.Code + 1) % 11 })
	for i := range right.Digest {
		wrong("another digest, at "+strconv.Itoa(i), func(ev *api.Event) { ev.Digest[i] ^= 1 << (i % 8) })
	}
	wrong("a shorter digest", func(ev *api.Event) { ev.Digest = ev.Digest[1:] })
	wrong("a digest without its end", func(ev *api.Event) { ev.Digest = ev.Digest[:len(ev.Digest)-1] })
	if len(right.Digest) < 32 {
		wrong("a longer digest", func(ev *api.Event) { ev.Digest = append(ev.Digest, 0) })
	}
	return l
}

// TestOpenEventsThatAreNotRight lays each of them in the place of one that is, with those ahead, and with those behind.
func TestOpenEventsThatAreNotRight(t *testing.T) {
	for _, w := range []int{3, 32} {
		s, _ := fresh(t, ofWidth(w))
		tell(t, s, story()...)
		l := entries(t, s)
		for place := 1; place < s.Len(); place++ {
			turned := wrongs(event(t, s, place), event(t, s, 0))
			for _, at := range []uint32{0, uint32(place) - 1, uint32(place) + 1, 4095, 4096, 1 << 16, 1<<32 - 1} {
				ev := event(t, s, place)
				ev.Place = at
				turned["the place "+strconv.Itoa(int(at))] = ev
			}
			for what, ev := range turned {
				payloads := slices.Clone(l)
				payloads[place] = bytesOf(t, ev)
				fails(t, what, ofWidth(w), lay(t, 65536, payloads...), "log", api.EBROKEN)
				fails(t, what+", the last one", ofWidth(w), lay(t, 65536, payloads[:place+1]...), "log", api.EBROKEN)
			}
			without := slices.Delete(slices.Clone(l), place, place+1)
			if place < len(without) {
				fails(t, "one is missing", ofWidth(w), lay(t, 65536, without...), "log", api.EBROKEN)
			}
			twice := slices.Insert(slices.Clone(l), place, l[place])
			fails(t, "one is there twice", ofWidth(w), lay(t, 65536, twice...), "log", api.EBROKEN)
		}
	}
}

// TestOpenWithAnotherConfig: of another width, and of another staff where that is answered otherwise, nothing is right.
func TestOpenWithAnotherConfig(t *testing.T) {
	s, d := fresh(t, ofWidth(20))
	tell(t, s, story()...)
	for _, w := range []int{1, 19, 21, 32} {
		fails(t, "another width", ofWidth(w), d, "log", api.EBROKEN)
	}
	c := ofWidth(20)
	c.Staff[2].Ward = 8
	fails(t, "another staff", c, d, "log", api.EBROKEN)
	c.Staff = nil
	fails(t, "no staff", c, d, "log", api.EBROKEN)
	c = ofWidth(20)
	c.Height, c.Seed, c.Disk = 5, []byte("another"), 100000
	if seen(opened(t, c, d)) != seen(s) {
		t.Error("P12.1: another height, seed, disk: it tells something else")
	}
	// The segment is wal's matter: another one is taken, where all frames are short enough.
	c.Segment = 20000
	if seen(opened(t, c, d)) != seen(s) {
		t.Error("P12.1: another segment: it tells something else")
	}
}

// TestOpenATornEnd cuts the last frame at each byte: what is left is what was ahead of it.
func TestOpenATornEnd(t *testing.T) {
	s, d := fresh(t, examples())
	tell(t, s, story()[:3]...)
	size, _ := d.Size("log.0")
	all, _ := d.Read("log.0", 0, size)
	short, _ := fresh(t, examples())
	tell(t, short, story()[:2]...)
	last := 12 + len(entry(t, s, 2))
	for cut := range last {
		e := newDisk(t, 65536)
		e.Create("log.0")
		e.Append("log.0", all[:size-last+cut]) // pending: Open makes it safe
		u := opened(t, examples(), e)
		if seen(u) != seen(short) {
			t.Errorf("P12.1: torn behind %d bytes of a frame, it has\n%s", cut, seen(u))
		}
		if e.Pending() != 0 || e.Used() != size-last {
			t.Errorf("P12.1: torn behind %d bytes: %d are pending, %d used", cut, e.Pending(), e.Used())
		}
		tell(t, u, story()[2])
		if seen(u) != seen(s) {
			t.Errorf("P12.2: done again behind a torn end, it has\n%s", seen(u))
		}
	}
}

// TestOpenOtherNames: logs of other names on the disk are another store's.
func TestOpenOtherNames(t *testing.T) {
	d := newDisk(t, 65536)
	var l []*store.Store
	for _, name := range []string{"a", "b", "log"} {
		s, e := store.Open(examples(), d, name)
		if e != api.OK {
			t.Fatal(e)
		}
		l = append(l, s)
	}
	for i, r := range story() {
		for k, s := range l {
			if i%(k+1) == 0 {
				tell(t, s, r)
			}
		}
	}
	for i, name := range []string{"a", "b", "log"} {
		if u, e := store.Open(examples(), d, name); e != api.OK || seen(u) != seen(l[i]) {
			t.Errorf("R5: the store %q is another one when it is opened again: %d", name, e)
		}
	}
}

// big is a log of as many events as there may be, and one more behind it, of place 4096, as a store without a limit would make it.
func big(t *testing.T) (d *disk.Disk, s *store.Store, next api.Event) {
	t.Helper()
	c := ofWidth(1)
	c.Disk = 1 << 20
	s, d = fresh(t, c)
	for i := range uint32(4096) {
		tell(t, s, api.Request{Id: api.Id{Number: i}, Actor: 9, Op: api.OpHistory})
	}
	r := api.Request{Id: api.Id{Number: 4096}, Actor: 9, Op: api.OpHistory}
	ev, _ := record.Event(1, 0, r, api.Answer{Id: r.Id, Code: api.NoActor})
	ev.Place = 4096
	return d, s, ev
}

func TestOpenMaxEvents(t *testing.T) {
	c := ofWidth(1)
	c.Disk = 1 << 20
	d, s, next := big(t)
	u := opened(t, c, d)
	if u.Len() != 4096 || seen(u) != seen(s) {
		t.Errorf("P12.1: MaxEvents payloads: %d events", u.Len())
	}
	l, e := wal.Open(d, "log", 8192)
	if e != api.OK {
		t.Fatal(e)
	}
	if _, e := l.Append(bytesOf(t, next)); e != api.OK || l.Sync() != api.OK {
		t.Fatal(e)
	}
	was := laid(d)
	fails(t, "MaxEvents payloads, and one more", c, d, "log", api.EBROKEN)
	if laid(d) != was {
		t.Error("R3: Open has changed a log that is too long")
	}
	l.Append([]byte{1, 2, 3})
	l.Sync()
	fails(t, "MaxEvents payloads, and two more", c, d, "log", api.EBROKEN)
}
