package store_test

import (
	"bytes"
	"runtime"
	"slices"
	"strings"
	"testing"

	"almoner/api"
	"almoner/store"
)

const roomBehind = 40

// roomy tells a copy of a list with spare room that is not empty.
func roomy[T any](l []T, spare T) []T {
	all := append(slices.Clone(l), slices.Repeat([]T{spare}, roomBehind)...)
	return all[:len(l)]
}

// isAsHanded tells whether a list of roomy's is as it was, its spare room too.
func isAsHanded[T comparable](l, was []T, spare T) bool {
	n := len(was) + roomBehind
	return slices.Equal(l[:n], roomy(was, spare)[:n])
}

// scribble writes over a list and its spare room.
func scribble[T any](l []T, v T) {
	l = l[:cap(l)]
	for i := range l {
		l[i] = v
	}
}

var spare = api.Field{Name: "spare", Kind: 9, Text: "spare", Value: 9, Unit: 9}

// TestWhatIsHandedToOpen is not changed, and not kept: a store whose Config was written over goes on as before, also where it makes its model anew.
func TestWhatIsHandedToOpen(t *testing.T) {
	c := examples()
	c.Staff = roomy(people, api.Staff{Actor: 9, Role: api.RoleDoctor, Ward: 7})
	c.Seed = roomy([]byte{1}, 9)
	s, d := fresh(t, c)
	if !isAsHanded(c.Staff, people, api.Staff{Actor: 9, Role: api.RoleDoctor, Ward: 7}) || !isAsHanded(c.Seed, []byte{1}, 9) {
		t.Error("R4: Open changes a list of the Config")
	}
	scribble(c.Staff, api.Staff{})
	scribble(c.Seed, 0)
	want, _ := fresh(t, examples())
	for i, r := range story() {
		d.Fill(i%2 == 0)
		s.Do(r)
		d.Fill(false)
		tell(t, want, r)
		if i%2 == 0 {
			tell(t, s, r)
		}
	}
	if seen(s) != seen(want) {
		t.Errorf("R4: a Config that is written over changes a store:\n%s", seen(s))
	}
}

// TestWhatIsHandedToDoAndTake is not changed, and not kept.
func TestWhatIsHandedToDoAndTake(t *testing.T) {
	want, _ := fresh(t, examples())
	tell(t, want, story()...)
	s, _ := fresh(t, examples())
	u, _ := fresh(t, examples())
	for place, r := range story() {
		was := r.Fields
		r.Fields = roomy(was, spare)
		if _, _, _, e := s.Do(r); e != api.OK {
			t.Fatal(e)
		}
		s.Do(r)
		if !isAsHanded(r.Fields, was, spare) {
			t.Errorf("R4: Do changes the fields of %+v", r)
		}
		scribble(r.Fields, api.Field{})

		ev := event(t, want, place)
		digest := ev.Digest
		ev.Request.Fields, ev.Digest = roomy(was, spare), roomy(digest, 77)
		for range 2 {
			u.Take(ev)
		}
		if !isAsHanded(ev.Request.Fields, was, spare) || !isAsHanded(ev.Digest, digest, 77) {
			t.Errorf("R4: Take changes a list of %+v", ev)
		}
		scribble(ev.Request.Fields, api.Field{})
		scribble(ev.Digest, 0)
	}
	if seen(s) != seen(want) || seen(u) != seen(want) {
		t.Error("R4: what was handed in is kept")
	}
	places := roomy([]int{0, 3, 7}, 9)
	first, _ := s.Many(places, 12)
	if !isAsHanded(places, []int{0, 3, 7}, 9) {
		t.Error("R4: Many changes its places")
	}
	scribble(places, 0)
	if again, _ := s.Many([]int{0, 3, 7}, 12); !sameHashes(first, again) {
		t.Error("R4: Many has kept its places")
	}
}

// spoil asks for all that a store tells, and writes over it.
func spoil(s *store.Store) {
	n := s.Len()
	for place := range n {
		ev, _ := s.Event(place)
		scribble(ev.Request.Fields, spare)
		scribble(ev.Digest, 77)
		b, _ := s.Entry(place)
		scribble(b, 77)
		a, _ := s.Answer(place)
		scribble(a.Fields, spare)
		scribble(a.History, api.Summary{Author: 99})
		_, a, _, _ = s.Do(api.Request{Id: ev.Request.Id})
		scribble(a.Fields, spare)
		scribble(a.History, api.Summary{Author: 99})
		path, _ := s.Path(place, n)
		spoilHashes(path)
		proof, _ := s.Proof(place, n)
		spoilHashes(proof)
		many, _ := s.Many([]int{place}, n)
		spoilHashes(many)
		root, _ := s.Root(place)
		scribble(root, 77)
	}
}

func spoilHashes(l [][]byte) {
	for _, h := range l {
		scribble(h, 77)
	}
	scribble(l, nil)
}

func TestWhatIsHandedOut(t *testing.T) {
	s, d := fresh(t, examples())
	want, _ := fresh(t, examples())
	for _, r := range story() {
		_, a, _, _ := s.Do(r)
		scribble(a.Fields, spare)
		scribble(a.History, api.Summary{Author: 99})
		tell(t, want, r)
		spoil(s)
		if seen(s) != seen(want) {
			t.Fatalf("R4: who writes over what is told changes the store:\n%s", seen(s))
		}
		// Where the model is made anew, it is made of what the store has.
		d.Fill(true)
		refuses(t, "full", s, creates(1000), api.EFULL)
		d.Fill(false)
	}
	u := opened(t, examples(), d)
	spoil(u)
	if seen(u) != seen(want) {
		t.Error("R4: who writes over what is told changes a store that was opened")
	}
}

// TestNoTwoListsShare: of one answer, each list has memory of its own.
func TestNoTwoListsShare(t *testing.T) {
	s, _ := fresh(t, examples())
	tell(t, s, story()...)
	for place := range s.Len() {
		for _, l := range [][][]byte{first(s.Path(place, 20)), first(s.Proof(place, 20)), first(s.Many([]int{place}, 20))} {
			for i := range l {
				was := slices.Clone(l)
				for k := range was {
					was[k] = bytes.Clone(l[k])
				}
				scribble(l[i], 77)
				for k := i + 1; k < len(l); k++ {
					if !bytes.Equal(l[k], was[k]) {
						t.Fatal("R4: two hashes of one answer share memory")
					}
				}
			}
		}
	}
}

func first(l [][]byte, _ api.Errno) [][]byte { return l }

// TestWhatWasToldStays: answers that were told are not changed by what comes later.
func TestWhatWasToldStays(t *testing.T) {
	s, d := fresh(t, examples())
	type told struct {
		a      api.Answer
		ev     api.Event
		b      []byte
		copied [2]string
	}
	var l []told
	text := func(x told) [2]string {
		var w [2]string
		for _, f := range x.a.Fields {
			w[0] += f.Name + f.Text
		}
		w[1] = string(x.ev.Digest) + string(x.b)
		return w
	}
	for i, r := range story() {
		_, a, _, _ := s.Do(r)
		x := told{a: a, ev: event(t, s, i), b: entry(t, s, i)}
		x.copied = text(x)
		l = append(l, x)
	}
	d.Turn("log.0", 40, 1)
	for i, x := range l {
		if text(x) != x.copied {
			t.Errorf("R4: what was told of the event %d has changed", i)
		}
	}
}

// TestLongTextsAreNotKept: of a text that is a piece of a longer one the piece alone is kept.
func TestLongTextsAreNotKept(t *testing.T) {
	s, d := fresh(t, examples())
	u, _ := fresh(t, examples())
	var n uint32
	next := func(r api.Request) {
		r.Id.Number = n
		n++
		tell(t, s, r)
		ev := event(t, s, s.Len()-1)
		ev.Request = r
		if e := u.Take(ev); e != api.OK {
			t.Fatal(e)
		}
		d.Fill(true)
		r.Id.Number = 1 << 20
		if _, _, _, e := s.Do(r); e != api.EFULL {
			t.Fatal(e)
		}
		d.Fill(false)
	}
	for i := range uint32(48) {
		whole := strings.Repeat("p", 1<<20)
		next(api.Request{Actor: 3, Op: api.OpCreate, Ward: 7, Owner: 6, Fields: []api.Field{text("a", whole[:20]), text(whole[20:30], "")}})
		next(api.Request{Actor: 3, Op: api.OpAmend, Record: i + 1, Version: 1, Fields: []api.Field{text(whole[:40], whole[:7])}})
		next(api.Request{Actor: 3, Op: api.OpRead, Record: i + 1})
		next(api.Request{Actor: 3, Op: api.OpBreak, Record: i + 1, Reason: whole[:9]})
	}
	var m runtime.MemStats
	runtime.GC()
	runtime.ReadMemStats(&m)
	if m.HeapAlloc > 24<<20 {
		t.Errorf("language rule 8: %d bytes are kept of 48 texts of 2^20", m.HeapAlloc)
	}
	runtime.KeepAlive(s)
	runtime.KeepAlive(u)
}

// TestNothingInCommon: two stores have nothing in common.
func TestNothingInCommon(t *testing.T) {
	s, _ := fresh(t, examples())
	u, _ := fresh(t, examples())
	tell(t, s, story()...)
	takes(t, u, s)
	was := seen(s)
	for i := range uint32(30) {
		tell(t, u, creates(1000+i))
	}
	tell(t, u, api.Request{Id: api.Id{Number: 2000}, Actor: 6, Op: api.OpRedact, Record: 1, Version: 1})
	if seen(s) != was {
		t.Error("R5: what one store does is seen in another one")
	}
}
