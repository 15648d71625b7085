package store_test

import (
	"strconv"
	"testing"

	"almoner/api"
	"almoner/disk"
	"almoner/record"
	"almoner/store"
)

// way is how a store comes to its next event: it does the request, or takes the event.
type way struct {
	name string
	next func(s *store.Store, ev api.Event) api.Errno
}

func ways() []way {
	return []way{
		{"Do", func(s *store.Store, ev api.Event) api.Errno {
			_, _, _, e := s.Do(ev.Request)
			return e
		}},
		{"Take", func(s *store.Store, ev api.Event) api.Errno { return s.Take(ev) }},
	}
}

// refusesBoth asks for an error of both ways, with zeros beside it, and a store that has what it had.
func refusesBoth(t *testing.T, what string, s *store.Store, ev api.Event, want api.Errno) {
	t.Helper()
	takesNot(t, what, s, ev, want) // first: it tells whether the model has kept a trace
	refuses(t, what, s, ev.Request, want)
}

// stories tells a store of each length, up to that of the story, on disks of their own.
func stories(t *testing.T, c api.Config) []*store.Store {
	t.Helper()
	var l []*store.Store
	for n := range len(story()) + 1 {
		s, _ := fresh(t, c)
		tell(t, s, story()[:n]...)
		l = append(l, s)
	}
	return l
}

// isCutOff asks for a store that tells what it had, and takes nothing more.
func isCutOff(t *testing.T, what string, s, had *store.Store, next api.Event) {
	t.Helper()
	if seen(s) != seen(had) {
		t.Fatalf("P12.4: %s: it had\n%s\nand has\n%s", what, seen(had), seen(s))
	}
	refusesBoth(t, what+", cut off", s, next, api.EOFF)
	refuses(t, what+", cut off, another request", s, creates(1000), api.EOFF)
	wrong := next
	wrong.Code = (wrong.Code + 1) % 11
	takesNot(t, what+", cut off, not right", s, wrong, api.EBROKEN)
	wrong = next
	wrong.Place++
	takesNot(t, what+", cut off, not the next", s, wrong, api.EORDER)
}

// TestTornAtEachByte arms the disk, so that the write of an event is torn at each byte, and then keeps each number of what was written.
func TestTornAtEachByte(t *testing.T) {
	c := examples()
	whole := stories(t, c)
	for _, place := range []int{0, 1, 5, 13} {
		next := event(t, whole[len(whole)-1], place)
		frame := 12 + len(bytesOf(t, next))
		for _, w := range ways() {
			for written := range frame + 2 {
				s, d := fresh(t, c)
				tell(t, s, story()[:place]...)
				used := d.Used()
				d.Arm(1, written)
				if e := w.next(s, next); e != api.EOFF {
					t.Fatalf("P12.4: %s, torn behind %d bytes: %d", w.name, written, e)
				}
				what := w.name + ", torn behind " + strconv.Itoa(written) + " bytes"
				isCutOff(t, what, s, whole[place], next)
				d.Start()
				isCutOff(t, what+", and the disk is on", s, whole[place], next)
				if d.Used() != used+min(written, frame) {
					t.Errorf("P12.4: %s: a store that is cut off has written: %d bytes, want %d", what, d.Used(), used+min(written, frame))
				}
				keep := written * 7 % (frame + 1)
				d.Crash(keep)
				d.Start()
				left := place
				if min(keep, written) >= frame {
					left++
				}
				opensAs(t, what, c, d, whole, left, next)
			}
		}
	}
}

// opensAs opens a store again, twice, which must have the first so many of the story's events, and go on.
func opensAs(t *testing.T, what string, c api.Config, d *disk.Disk, whole []*store.Store, left int, next api.Event) {
	t.Helper()
	for range 2 {
		if u := opened(t, c, d); seen(u) != seen(whole[left]) {
			t.Fatalf("P12.4: %s, opened again: %d events, want %d", what, u.Len(), left)
		}
	}
	u := opened(t, c, d)
	place, _, again, e := u.Do(next.Request)
	if place != int(next.Place) || again != (left > int(next.Place)) || e != api.OK {
		t.Errorf("P12.7: %s, opened again, and asked again: %d, %v, %d", what, place, again, e)
	}
	tell(t, u, story()[next.Place+1:]...)
	if seen(u) != seen(whole[len(whole)-1]) {
		t.Errorf("P12.7: %s, opened again, and gone on: it has\n%s", what, seen(u))
	}
}

// TestCrashBetweenAppendAndSync: all of an event is written, and the disk is off ahead of the Sync; then each number of these bytes is kept.
func TestCrashBetweenAppendAndSync(t *testing.T) {
	c := examples()
	whole := stories(t, c)
	const place = 3
	next := event(t, whole[place+1], place)
	frame := 12 + len(bytesOf(t, next))
	for _, w := range ways() {
		for keep := -1; keep <= frame+1; keep++ {
			s, d := fresh(t, c)
			tell(t, s, story()[:place]...)
			d.Arm(1, 1<<20)
			if e := w.next(s, next); e != api.EOFF {
				t.Fatalf("P12.4: %s, and the disk goes off: %d", w.name, e)
			}
			what := w.name + ", written whole, " + strconv.Itoa(keep) + " bytes kept"
			isCutOff(t, what, s, whole[place], next)
			d.Crash(keep)
			d.Start()
			left := place
			if keep >= frame {
				left++
			}
			opensAs(t, what, c, d, whole, left, next)
		}
	}
}

// TestEachEventIsSynced: whatever crashes behind a call that was done, the event is there.
func TestEachEventIsSynced(t *testing.T) {
	c := examples()
	whole := stories(t, c)
	for _, w := range ways() {
		s, d := fresh(t, c)
		for place := range story() {
			if e := w.next(s, event(t, whole[len(whole)-1], place)); e != api.OK {
				t.Fatalf("P12.2: %s: %d", w.name, e)
			}
			if d.Pending() != 0 {
				t.Errorf("P12.2: %s is done, and %d bytes are pending", w.name, d.Pending())
			}
			d.Crash(0)
			d.Start()
			if seen(opened(t, c, d)) != seen(whole[place+1]) {
				t.Errorf("P12.2: %s was done, and a crash took the event %d", w.name, place)
			}
		}
	}
}

// TestFull: behind EFULL nothing has changed, and the same call may be made again.
func TestFull(t *testing.T) {
	c := examples()
	whole := stories(t, c)
	for _, w := range ways() {
		s, d := fresh(t, c)
		for place := range story() {
			next := event(t, whole[len(whole)-1], place)
			d.Fill(true)
			was := laid(d)
			for range 2 {
				refusesBoth(t, "full", s, next, api.EFULL)
			}
			refuses(t, "full, another request", s, creates(1000), api.EFULL)
			if seen(s) != seen(whole[place]) || laid(d) != was {
				t.Fatalf("P12.4: full: something has changed")
			}
			d.Fill(false)
			if e := w.next(s, next); e != api.OK {
				t.Fatalf("P12.4: %s, no longer full: %d", w.name, e)
			}
			if seen(s) != seen(whole[place+1]) {
				t.Fatalf("P12.4: %s, no longer full: it has\n%s\nwant\n%s", w.name, seen(s), seen(whole[place+1]))
			}
		}
		if seen(opened(t, c, d)) != seen(s) {
			t.Error("P12.7: opened again, it tells something else")
		}
	}
}

// TestNoRoom: the disk is full by its bytes; a shorter event may still have room.
func TestNoRoom(t *testing.T) {
	c := examples()
	c.Disk = 8192
	s, d := fresh(t, c)
	fields := []api.Field{text("a", "0123456789012345678901234567890123456789"), text("b", "0123456789012345678901234567890123456789")}
	number := uint32(0)
	for ; ; number++ {
		if _, _, _, e := s.Do(creates(number, fields...)); e != api.OK {
			if e != api.EFULL {
				t.Fatalf("P12.2: the disk has no room: %d", e)
			}
			break
		}
	}
	n := s.Len()
	refuses(t, "no room", s, creates(number, fields...), api.EFULL)
	for {
		number++
		if _, a, _, e := s.Do(creates(number)); e != api.OK {
			break
		} else if a.Record != uint32(s.Len()) {
			t.Fatalf("P12.4: a record that was not made has a number: %+v at %d", a, s.Len()-1)
		}
	}
	if s.Len() == n {
		t.Error("the disk has no room for a shorter event")
	}
	if seen(opened(t, c, d)) != seen(s) {
		t.Error("P12.7: opened again, it tells something else")
	}
}

// atItsEnd tells a store whose log can't have another segment, and needs one: the disk has as many files as it may.
func atItsEnd(t *testing.T) (s *store.Store, d *disk.Disk, next api.Event) {
	t.Helper()
	c := examples()
	s, d = fresh(t, c)
	number := uint32(0)
	for d.Used()+12+200 <= 8192 {
		tell(t, s, creates(number))
		number++
	}
	for i := range 255 {
		if e := d.Create("other" + strconv.Itoa(i)); e != api.OK {
			t.Fatal(e)
		}
	}
	r := creates(number, text("a", "0123456789012345678901234567890123456789012345678901234567890123"), text("b", "0123456789012345678901234567890123456789012345678901234567890123"))
	a := record.Answers(people, append(requests(t, s), r))[s.Len()]
	next, errno := record.Event(32, uint32(s.Len()), r, a)
	if errno != api.OK {
		t.Fatal(errno)
	}
	return s, d, next
}

func requests(t *testing.T, s *store.Store) []api.Request {
	t.Helper()
	var l []api.Request
	for place := range s.Len() {
		l = append(l, event(t, s, place).Request)
	}
	return l
}

// TestALogAtItsEnd: behind ELIMIT nothing has changed, and the same call may be made again, when there is room for a file.
func TestALogAtItsEnd(t *testing.T) {
	for _, w := range ways() {
		s, d, next := atItsEnd(t)
		was := laid(d)
		for range 2 {
			refusesBoth(t, "the log is at its end", s, next, api.ELIMIT)
		}
		if laid(d) != was {
			t.Error("P12.4: the log is at its end, and something has changed")
		}
		if e := d.Remove("other3"); e != api.OK {
			t.Fatal(e)
		}
		if e := w.next(s, next); e != api.OK {
			t.Errorf("P12.4: %s, when there is room for a file: %d", w.name, e)
		}
		if place, ok := s.Find(next.Request.Id); place != s.Len()-1 || !ok {
			t.Errorf("P12.4: %s, when there is room for a file: %d, %v", w.name, place, ok)
		}
		if seen(opened(t, examples(), d)) != seen(s) {
			t.Error("P12.7: opened again, it tells something else")
		}
	}
}

// TestFullInANewSegment: the log has begun another segment, and then there is no room.
func TestFullInANewSegment(t *testing.T) {
	for _, w := range ways() {
		s, d, next := atItsEnd(t)
		d.Remove("other3")
		d.Fill(true)
		for range 2 {
			refusesBoth(t, "full, behind a new segment", s, next, api.EFULL)
		}
		if seen(opened(t, examples(), d)) != seen(s) {
			t.Error("P12.4: opened again, it tells something else")
		}
		d.Fill(false)
		if e := w.next(s, next); e != api.OK {
			t.Errorf("P12.4: %s, no longer full: %d", w.name, e)
		}
		if seen(opened(t, examples(), d)) != seen(s) {
			t.Error("P12.7: opened again, it tells something else")
		}
	}
}

// TestOtherErrorsCutOff: whatever error it is, but for EFULL and ELIMIT. Another hand has taken the open segment away, or laid a file in the place of the next one.
func TestOtherErrorsCutOff(t *testing.T) {
	for _, w := range ways() {
		s, d := fresh(t, examples())
		had, _ := fresh(t, examples())
		tell(t, s, story()[:2]...)
		tell(t, had, story()[:3]...)
		next := event(t, had, 2)
		had, _ = fresh(t, examples())
		tell(t, had, story()[:2]...)
		d.Remove("log.0")
		if e := w.next(s, next); e != api.ENONE {
			t.Errorf("P12.2: %s, and the segment is gone: %d", w.name, e)
		}
		isCutOff(t, "the segment is gone", s, had, next)
		d.Create("log.0")
		isCutOff(t, "the segment was gone", s, had, next)

		s, d, next = atItsEnd(t)
		d.Remove("other3")
		d.Create("log.1")
		was := seen(s)
		if e := w.next(s, next); e != api.EARG {
			t.Errorf("P12.2: %s, and the next segment's file is there: %d", w.name, e)
		}
		if seen(s) != was {
			t.Error("P12.4: something has changed")
		}
		d.Remove("log.1")
		refusesBoth(t, "the next segment's file was there", s, next, api.EOFF)
	}
}

// TestOffAndOnAgain: a disk that was off, without a call in between, has cut off nothing: all events were safe.
func TestOffAndOnAgain(t *testing.T) {
	s, d := fresh(t, examples())
	whole := stories(t, examples())
	for i, r := range story() {
		d.Crash(i)
		d.Start()
		tell(t, s, r)
		if seen(s) != seen(whole[i+1]) || seen(opened(t, examples(), d)) != seen(s) {
			t.Fatalf("P12.7: behind %d crashes it has\n%s", i+1, seen(s))
		}
	}
}

// TestEachFailureLeavesNoTrace: behind each request that found no room, the others are answered as without it.
func TestEachFailureLeavesNoTrace(t *testing.T) {
	l := story()
	whole := stories(t, examples())
	for i, r := range l {
		r.Id = api.Id{Client: 9, Number: uint32(i)}
		for k := range l {
			s, d := fresh(t, examples())
			tell(t, s, l[:k]...)
			d.Fill(true)
			refuses(t, "full", s, r, api.EFULL)
			d.Fill(false)
			tell(t, s, l[k:]...)
			if seen(s) != seen(whole[len(l)]) {
				t.Fatalf("P12.4: behind %d requests %+v found no room, and left a trace:\n%s", k, r, seen(s))
			}
		}
	}
}
