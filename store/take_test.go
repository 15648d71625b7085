package store_test

import (
	"bytes"
	"math"
	"strconv"
	"strings"
	"testing"

	"almoner/api"
	"almoner/record"
)

// TestTakeEach takes a story's events, and ahead of each one all that may not be taken.
func TestTakeEach(t *testing.T) {
	for _, w := range []int{2, 32} {
		s, _ := fresh(t, ofWidth(w))
		tell(t, s, story()...)
		u, d := fresh(t, ofWidth(w))
		for place := range s.Len() {
			right := event(t, s, place)
			for _, at := range edges(place) {
				if at == place || at < 0 || at > math.MaxUint32 {
					continue
				}
				ev := right
				ev.Place = uint32(at)
				takesNot(t, "the place "+strconv.Itoa(at), u, ev, api.EORDER)
			}
			for other := range s.Len() {
				if other != place {
					takesNot(t, "the event of another place", u, event(t, s, other), api.EORDER)
				}
			}
			for what, ev := range wrongs(right, event(t, s, 0)) {
				if place > 0 || what != "an id that was there" {
					takesNot(t, what, u, ev, api.EBROKEN)
				}
			}
			if e := u.Take(right); e != api.OK || u.Len() != place+1 {
				t.Fatalf("P12.3: Take of the event %d: %d, Len %d", place, e, u.Len())
			}
		}
		if seen(u) != seen(s) {
			t.Errorf("P12.7: it took\n%s\nand has\n%s", seen(s), seen(u))
		}
		if seen(opened(t, ofWidth(w), d)) != seen(s) {
			t.Error("P12.7: opened again, it tells something else")
		}
	}
}

// turnedRequests tells one request in many others' stead.
func turnedRequests(r api.Request) []api.Request {
	var l []api.Request
	turn := func(f func(r *api.Request)) {
		o := r
		f(&o)
		l = append(l, o)
	}
	turn(func(r *api.Request) { r.Actor = 9 })
	turn(func(r *api.Request) { r.Op = 0 })
	turn(func(r *api.Request) { r.Op = 8 })
	turn(func(r *api.Request) { r.Record = 200 })
	turn(func(r *api.Request) { r.Version = 200 })
	turn(func(r *api.Request) { r.Ward++ })
	turn(func(r *api.Request) { r.Owner++ })
	turn(func(r *api.Request) { r.Reason = "x" })
	turn(func(r *api.Request) { r.Reason = strings.Repeat("x", 65) })
	turn(func(r *api.Request) { r.Fields = nil })
	turn(func(r *api.Request) { r.Fields = append([]api.Field{text("A", "")}, r.Fields...) })
	turn(func(r *api.Request) { r.Fields = []api.Field{text("", "")} })
	turn(func(r *api.Request) { r.Fields = make([]api.Field, 40) })
	turn(func(r *api.Request) { r.Fields = []api.Field{{Name: "t", Kind: api.FieldGone}} })
	return l
}

// TestTakeOtherRequests: an event with another request is taken just if that has a form, and the model's answer to it, in the event's place, has that code and that digest.
func TestTakeOtherRequests(t *testing.T) {
	s, _ := fresh(t, examples())
	tell(t, s, story()...)
	for place := range s.Len() {
		right := event(t, s, place)
		u, _ := fresh(t, examples())
		for i := range place {
			u.Take(event(t, s, i))
		}
		for _, r := range turnedRequests(right.Request) {
			ev := right
			ev.Request = r
			a := record.Answers(people, append(append([]api.Request(nil), story()[:place]...), r))[place]
			want, errno := record.Event(32, uint32(place), r, a)
			if errno == api.OK && sameEvent(want, ev) { // another request, answered alike: such an event is right
				v, _ := fresh(t, examples())
				for i := range place {
					v.Take(event(t, s, i))
				}
				if e := v.Take(ev); e != api.OK || !bytes.Equal(entry(t, v, place), bytesOf(t, ev)) {
					t.Errorf("P12.3: Take(%+v), which is right: %d", ev, e)
				}
				continue
			}
			takesNot(t, "another request", u, ev, api.EBROKEN)
		}
		if u.Take(right) != api.OK {
			t.Fatalf("P12.3: behind such as were not right, the event %d is not taken", place)
		}
	}
}

// TestTakeOddEvents: codes and digests that no event has, and requests without a form that would be answered NoForm.
func TestTakeOddEvents(t *testing.T) {
	s, _ := fresh(t, examples())
	tell(t, s, creates(1))
	u, _ := fresh(t, examples())
	for _, code := range []uint8{1, 2, 9, 10, 11, 128, 255} {
		ev := event(t, s, 0)
		ev.Code = code
		takesNot(t, "the code "+strconv.Itoa(int(code)), u, ev, api.EBROKEN)
	}
	for _, digest := range [][]byte{nil, {}, {0}, make([]byte, 31), make([]byte, 32), make([]byte, 33), make([]byte, 1000), event(t, s, 0).Digest[:31]} {
		ev := event(t, s, 0)
		ev.Digest = digest
		takesNot(t, "another digest", u, ev, api.EBROKEN)
	}
	long := event(t, s, 0)
	long.Digest = append(long.Digest, 0)
	takesNot(t, "a longer digest", u, long, api.EBROKEN)
	for _, r := range formless(api.Id{Number: 1}) {
		ev := event(t, s, 0)
		ev.Request = r
		takesNot(t, "a request without a form", u, ev, api.EBROKEN)
		ev.Code, ev.Digest = api.NoForm, digestOf(t, api.Answer{Id: r.Id, Code: api.NoForm})
		takesNot(t, "a request without a form, answered NoForm", u, ev, api.EBROKEN)
	}
	takesNot(t, "the event of zeros", u, api.Event{}, api.EBROKEN)
	// Of an id that is there, and all else as it would be.
	tell(t, u, creates(1))
	r := creates(1)
	ev, _ := record.Event(32, 1, r, api.Answer{Id: r.Id, Record: 2, Version: 1})
	takesNot(t, "an id that is there, and all else is right", u, ev, api.EBROKEN)
	ev, _ = record.Event(32, 1, creates(2), api.Answer{Id: api.Id{Number: 2}, Record: 2, Version: 1})
	if e := u.Take(ev); e != api.OK {
		t.Errorf("P12.3: made by another hand, and right: %d", e)
	}
}

// digestOf tells that of an answer, with width 32.
func digestOf(t *testing.T, a api.Answer) []byte {
	t.Helper()
	ev, e := record.Event(32, 0, api.Request{Id: a.Id, Op: api.OpHistory}, a)
	if e != api.OK {
		t.Fatal(e)
	}
	return ev.Digest
}

// TestTakeOfAnotherWidth: what another width's store has is right nowhere else.
func TestTakeOfAnotherWidth(t *testing.T) {
	for _, w := range []int{1, 8, 31, 32} {
		s, _ := fresh(t, ofWidth(w))
		tell(t, s, creates(1))
		for _, v := range []int{1, 8, 31, 32} {
			u, _ := fresh(t, ofWidth(v))
			if v == w {
				takes(t, u, s)
			} else {
				takesNot(t, "another width", u, event(t, s, 0), api.EBROKEN)
			}
		}
	}
}

// TestOrderOfTakesErrors goes through all sets of flaws.
func TestOrderOfTakesErrors(t *testing.T) {
	s, _ := fresh(t, examples())
	tell(t, s, story()...)
	for flaws := range 16 {
		order, wrong, off, full := flaws&1 != 0, flaws&2 != 0, flaws&4 != 0, flaws&8 != 0
		u, d := fresh(t, examples())
		u.Take(event(t, s, 0))
		if off {
			d.Crash(0)
			u.Take(event(t, s, 1))
			d.Start()
		}
		d.Fill(full)
		ev := event(t, s, 1)
		if order {
			ev.Place = 2
		}
		if wrong {
			ev.Code++
		}
		want := api.OK
		switch {
		case order:
			want = api.EORDER
		case wrong:
			want = api.EBROKEN
		case off:
			want = api.EOFF
		case full:
			want = api.EFULL
		}
		if want != api.OK {
			takesNot(t, "the flaws "+strconv.FormatInt(int64(flaws), 2), u, ev, want)
		} else if e := u.Take(ev); e != api.OK {
			t.Errorf("P12.3: without a flaw: %d", e)
		}
		if want == api.EFULL {
			d.Fill(false)
			takes(t, u, s)
		}
	}
}

// TestWhatIsNotTakenLeavesNoTrace: behind events that were not right, of every kind of request, the answers are what they would have been.
func TestWhatIsNotTakenLeavesNoTrace(t *testing.T) {
	l := story()
	for i, r := range l {
		for k := range l {
			u, _ := fresh(t, examples())
			tell(t, u, l[:k]...)
			r.Id = api.Id{Client: 9, Number: uint32(i)}
			takesNot(t, "a digest of zeros", u, api.Event{Place: uint32(k), Request: r, Digest: make([]byte, 32)}, api.EBROKEN)
			for j, want := range record.Answers(people, l)[k:] {
				if _, a, _, e := u.Do(l[k+j]); e != api.OK || !sameAnswer(a, want) {
					t.Fatalf("R3: behind %d requests and an event of %+v that was not taken, %+v is answered %+v, want %+v", k, r, l[k+j], a, want)
				}
			}
		}
	}
}
