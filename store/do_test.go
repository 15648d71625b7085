package store_test

import (
	"math"
	"strconv"
	"strings"
	"testing"

	"almoner/api"
	"almoner/disk"
	"almoner/record"
	"almoner/store"
)

// formless tells requests that have no form, of an id.
func formless(id api.Id) []api.Request {
	gone := []api.Field{{Name: "a", Kind: api.FieldGone}}
	l := []api.Request{
		{},
		{Op: 8, Actor: 1},
		{Op: 255},
		{Op: api.OpRead, Actor: 1, Record: 1, Ward: 1},
		{Op: api.OpCreate, Actor: 1, Ward: 7, Owner: 6, Record: 1},
		{Op: api.OpCreate, Actor: 1, Ward: 7, Owner: 6, Fields: gone},
		{Op: api.OpCreate, Actor: 1, Ward: 7, Owner: 6, Fields: []api.Field{text("b", ""), text("a", "")}},
		{Op: api.OpCreate, Actor: 1, Ward: 7, Owner: 6, Fields: make([]api.Field, 33)},
		{Op: api.OpAmend, Actor: 3, Record: 1, Version: 1, Fields: []api.Field{quantity("t", float32(math.NaN()), 11)}},
		{Op: api.OpAmend, Actor: 3, Record: 1, Version: 1, Fields: []api.Field{quantity("t", float32(math.Copysign(0, -1)), 11)}},
		{Op: api.OpAmend, Actor: 3, Record: 1, Version: 1, Fields: []api.Field{text("t", strings.Repeat("x", 65))}},
		{Op: api.OpSeal, Actor: 6, Record: 1, Version: 2},
		{Op: api.OpHistory, Actor: 5, Record: 1, Version: 1},
		{Op: api.OpBreak, Actor: 4, Record: 1, Reason: strings.Repeat("x", 65)},
		{Op: api.OpRead, Actor: 3, Record: 1, Reason: "x"},
	}
	for i := range l {
		l[i].Id = id
	}
	return l
}

// isThere asks for the event of an id, with whatever else a request of that id says.
func isThere(t *testing.T, what string, s *store.Store, id api.Id, place int) {
	t.Helper()
	want, _ := s.Answer(place)
	l := append(formless(id), api.Request{Id: id, Actor: 3, Op: api.OpRead, Record: 1}, api.Request{Id: id, Actor: 1, Op: api.OpCreate, Ward: 7, Owner: 6}, event(t, s, place).Request)
	was := seen(s)
	for _, r := range l {
		if at, a, again, e := s.Do(r); at != place || !sameAnswer(a, want) || !again || e != api.OK {
			t.Errorf("P12.2: %s: Do(%+v): %d, %+v, %v, %d, want %d, %+v, true, OK", what, r, at, a, again, e, place, want)
		}
	}
	if seen(s) != was {
		t.Errorf("P12.2: %s: a request that was done is done again", what)
	}
}

// areThere asks isThere for all events.
func areThere(t *testing.T, what string, s *store.Store) {
	t.Helper()
	for place := range s.Len() {
		isThere(t, what, s, event(t, s, place).Request.Id, place)
	}
}

func TestDoAnIdThatIsThere(t *testing.T) {
	s, d := fresh(t, examples())
	tell(t, s, story()...)
	areThere(t, "an ordinary store", s)
	d.Fill(true)
	areThere(t, "its disk is full", s)
	d.Fill(false)
	u := opened(t, examples(), d)
	areThere(t, "opened again", u)
	d.Crash(0)
	areThere(t, "its disk is off", s)
	refuses(t, "the disk is off", s, creates(99), api.EOFF)
	areThere(t, "it is cut off", s)
	d.Start()
	areThere(t, "it is cut off, and the disk is on", s)
}

// TestTheAnswerIsThatOfItsTime: what a request is answered again is what it was answered, not what it would be now.
func TestTheAnswerIsThatOfItsTime(t *testing.T) {
	s, d := fresh(t, examples())
	reads := api.Request{Id: api.Id{Client: 1, Number: 1}, Actor: 3, Op: api.OpRead, Record: 1}
	tell(t, s, creates(1, text("name", "Ada")))
	_, was, _, _ := s.Do(reads)
	tell(t, s, api.Request{Id: api.Id{Number: 2}, Actor: 3, Op: api.OpAmend, Record: 1, Version: 1, Fields: []api.Field{text("name", "Eve")}}, api.Request{Id: api.Id{Number: 3}, Actor: 6, Op: api.OpRedact, Record: 1, Version: 1})
	if was.Version != 1 || len(was.Fields) != 1 || was.Fields[0].Text != "Ada" {
		t.Fatalf("P12.2: a read: %+v", was)
	}
	for _, u := range []*store.Store{s, opened(t, examples(), d)} {
		does(t, u, reads, 1, was, true, api.OK)
	}
}

func TestDoWithoutAForm(t *testing.T) {
	s, d := fresh(t, examples())
	tell(t, s, story()[:5]...)
	l := formless(api.Id{Client: 8, Number: 8})
	check := func(what string) {
		t.Helper()
		for _, r := range l {
			refuses(t, what, s, r, api.EARG)
		}
	}
	check("without a form")
	d.Fill(true)
	check("without a form, and the disk is full")
	d.Fill(false)
	d.Crash(0)
	check("without a form, and the disk is off")
	refuses(t, "the disk is off", s, creates(99), api.EOFF)
	check("without a form, and it is cut off")
	d.Start()
	if seen(opened(t, examples(), d)) != seen(s) {
		t.Error("P12.2: a request without a form is in the log")
	}
}

// TestRefusedByTheModel: such a request is done, too, and has its event.
func TestRefusedByTheModel(t *testing.T) {
	s, d := fresh(t, examples())
	codes := map[uint8]int{}
	for i, r := range story() {
		want := record.Answers(people, story()[:i+1])[i]
		does(t, s, r, i, want, false, api.OK)
		if ev := event(t, s, i); ev.Code != want.Code {
			t.Errorf("P12.2: the code %d in the event of a request that is answered %d", ev.Code, want.Code)
		}
		codes[want.Code]++
	}
	for _, code := range []uint8{api.Done, api.NoActor, api.NoRecord, api.NoVersion, api.NotAllowed, api.IsSealed, api.Stale, api.IsRedacted, api.BadUnit} {
		if codes[code] == 0 {
			t.Errorf("the story has no request that is answered %d", code)
		}
	}
	if seen(opened(t, examples(), d)) != seen(s) {
		t.Error("P12.7: opened again, it tells something else")
	}
}

// TestTooMany: the model's own limits are answers, no errors.
func TestTooMany(t *testing.T) {
	s, d := fresh(t, ofWidth(8))
	for i := range uint32(256) {
		does(t, s, creates(i), int(i), made(i, i+1), false, api.OK)
	}
	does(t, s, creates(256), 256, api.Answer{Id: api.Id{Number: 256}, Code: api.TooMany}, false, api.OK)
	tell(t, s, creates(257))
	u, _ := fresh(t, ofWidth(8))
	takes(t, u, s)
	if seen(u) != seen(s) || seen(opened(t, ofWidth(8), d)) != seen(s) {
		t.Error("P12.7: too many records: the stores tell something else")
	}
}

func TestMaxEvents(t *testing.T) {
	d, s, next := big(t)
	if s.Len() != 4096 {
		t.Fatalf("P12.2: %d events", s.Len())
	}
	was := seen(s)
	check := func(what string) {
		t.Helper()
		for _, r := range []api.Request{next.Request, creates(5000)} {
			if place, a, again, e := s.Do(r); place != 0 || !sameAnswer(a, api.Answer{}) || again || e != api.ELIMIT {
				t.Errorf("P12.2: %s: Do with MaxEvents events: %d, %+v, %v, %d", what, place, a, again, e)
			}
		}
		for _, r := range formless(api.Id{Number: 5000}) {
			if _, _, _, e := s.Do(r); e != api.EARG {
				t.Errorf("P12.2: %s: Do without a form, with MaxEvents events: %d", what, e)
			}
		}
		for _, place := range []int{0, 1, 2048, 4095} {
			want, _ := s.Answer(place)
			if at, a, again, e := s.Do(api.Request{Id: api.Id{Number: uint32(place)}}); at != place || !sameAnswer(a, want) || !again || e != api.OK {
				t.Errorf("P12.2: %s: Do of an id that is there, with MaxEvents events: %d, %+v, %v, %d", what, at, a, again, e)
			}
		}
		wrong, behind, again, none := next, next, next, next
		wrong.Code, behind.Place, again.Request.Id.Number, none.Request.Op = 0, 4095, 7, 9
		for i, ev := range []api.Event{next, wrong, again, none} {
			if e := s.Take(ev); e != api.ELIMIT {
				t.Errorf("P12.3: %s: Take %d with MaxEvents events: %d", what, i, e)
			}
		}
		for _, place := range []uint32{0, 4095, 4097, 1<<32 - 1} {
			behind.Place = place
			if e := s.Take(behind); e != api.EORDER {
				t.Errorf("P12.3: %s: Take of the place %d with MaxEvents events: %d", what, place, e)
			}
		}
	}
	check("an ordinary store")
	d.Fill(true)
	check("its disk is full")
	d.Fill(false)
	d.Crash(0)
	check("its disk is off")
	d.Start()
	if seen(s) != was {
		t.Error("R3: a store with MaxEvents events has changed")
	}
	u, _ := fresh(t, func() api.Config { c := ofWidth(1); c.Disk = 1 << 20; return c }())
	takes(t, u, s)
	if seen(u) != was {
		t.Error("P12.7: MaxEvents events, taken one after the other, tell something else")
	}
}

// TestMaxEventsLessOne: the last place is one as any other.
func TestMaxEventsLessOne(t *testing.T) {
	c := ofWidth(1)
	c.Disk = 1 << 20
	s, d := fresh(t, c)
	u, f := fresh(t, c)
	for i := range uint32(4095) {
		tell(t, s, api.Request{Id: api.Id{Number: i}, Actor: 9, Op: api.OpHistory})
	}
	takes(t, u, s)
	last := api.Request{Id: api.Id{Number: 4095}, Actor: 9, Op: api.OpHistory}
	for _, x := range []*disk.Disk{d, f} {
		x.Fill(true)
	}
	if _, _, _, e := s.Do(last); e != api.EFULL {
		t.Errorf("P12.2: the last place, and the disk is full: %d", e)
	}
	d.Fill(false)
	f.Fill(false)
	if place, a, again, e := s.Do(last); place != 4095 || a.Code != api.NoActor || again || e != api.OK {
		t.Errorf("P12.2: the last place: %d, %+v, %v, %d", place, a, again, e)
	}
	takes(t, u, s)
	f.Crash(0)
	r := creates(5000)
	if _, _, _, e := u.Do(r); e != api.ELIMIT {
		t.Errorf("P12.2: MaxEvents events, and the disk is off: %d", e)
	}
}

// TestOrderOfCases goes through all sets of flaws: the first case that applies is answered. (A store with MaxEvents events asks its log no more, and so is never cut off.)
func TestOrderOfCases(t *testing.T) {
	for flaws := range 16 {
		known, none, off, full := flaws&1 != 0, flaws&2 != 0, flaws&4 != 0, flaws&8 != 0
		s, d := fresh(t, examples())
		tell(t, s, story()[:4]...)
		if off {
			d.Crash(0)
			s.Do(creates(98))
			d.Start()
		}
		d.Fill(full)
		r := creates(77)
		if known {
			r.Id = story()[2].Id
		}
		if none {
			r.Op = 0
		}
		want, errno := 0, api.OK
		switch {
		case known:
			want = 2
		case none:
			errno = api.EARG
		case off:
			errno = api.EOFF
		case full:
			errno = api.EFULL
		default:
			want = 4
		}
		what := "the flaws " + strconv.FormatInt(int64(flaws), 2)
		if errno != api.OK {
			refuses(t, what, s, r, errno)
			continue
		}
		if place, _, again, e := s.Do(r); place != want || again != known || e != api.OK {
			t.Errorf("P12.2: %s: %d, %v, %d", what, place, again, e)
		}
	}
}
