package store_test

import (
	"bytes"
	"math"
	"testing"

	"almoner/api"
	"almoner/merkle"
	"almoner/record"
	"almoner/store"
)

// does asks Do for a place, an answer, whether it was there, and an error.
func does(t *testing.T, s *store.Store, r api.Request, place int, want api.Answer, again bool, e api.Errno) {
	t.Helper()
	if p, a, g, f := s.Do(r); p != place || !sameAnswer(a, want) || g != again || f != e {
		t.Errorf("P12.2: Do(%+v): %d, %+v, %v, %d, want %d, %+v, %v, %d", r, p, a, g, f, place, want, again, e)
	}
}

// made is the answer to R(number), if it makes a record.
func made(number, chart uint32) api.Answer {
	return api.Answer{Id: api.Id{Number: number}, Record: chart, Version: 1}
}

// TestExamples goes along the chapter's table, line by line.
func TestExamples(t *testing.T) {
	c := examples()
	s, d := fresh(t, c)
	if place, ok := s.Find(api.Id{Number: 1}); s.Len() != 0 || place != 0 || ok {
		t.Errorf("P12.5: a new store: Len %d, Find %d, %v", s.Len(), place, ok)
	}
	if ev, e := s.Event(0); e != api.ENONE || !sameEvent(ev, api.Event{}) {
		t.Errorf("P12.5: Event(0) of none: %+v, %d", ev, e)
	}

	does(t, s, creates(1), 0, made(1, 1), false, api.OK)
	does(t, s, creates(2), 1, made(2, 2), false, api.OK)
	does(t, s, creates(1), 0, made(1, 1), true, api.OK)

	nobody, none := creates(3), creates(4)
	nobody.Actor, none.Op = 9, 9
	does(t, s, nobody, 2, api.Answer{Id: nobody.Id, Code: api.NoActor}, false, api.OK)
	does(t, s, none, 0, api.Answer{}, false, api.EARG)
	if s.Len() != 3 {
		t.Errorf("P12.5: Len %d, want 3", s.Len())
	}

	d.Fill(true)
	does(t, s, creates(5), 0, api.Answer{}, false, api.EFULL)
	if s.Len() != 3 {
		t.Errorf("P12.5: Len %d, want 3", s.Len())
	}
	d.Fill(false)
	does(t, s, creates(5), 3, made(5, 3), false, api.OK)

	u, _ := fresh(t, c)
	first, second := event(t, s, 0), event(t, s, 1)
	other := second
	other.Code = 1
	for i, x := range []struct {
		ev   api.Event
		want api.Errno
	}{{second, api.EORDER}, {first, api.OK}, {first, api.EORDER}, {other, api.EBROKEN}, {second, api.OK}} {
		if e := u.Take(x.ev); e != x.want {
			t.Errorf("P12.3: the Take %d of the examples: %d, want %d", i, e, x.want)
		}
	}

	d.Crash(0)
	does(t, s, creates(6), 0, api.Answer{}, false, api.EOFF)
	does(t, s, creates(1), 0, made(1, 1), true, api.OK)
	d.Start()
	does(t, s, creates(6), 0, api.Answer{}, false, api.EOFF)
	if n := opened(t, c, d).Len(); n != 4 {
		t.Errorf("P12.7: opened again: %d events, want 4", n)
	}
}

// edges are places and numbers of events around those of a store, and far from them.
func edges(n int) []int {
	return []int{math.MinInt, math.MinInt + n, -1 << 32, -n - 1, -n, -1, 0, 1, n / 2, n - 1, n, n + 1, 4095, 4096, 1 << 31, 1 << 32, 1<<32 + n/2, math.MaxInt}
}

func TestEventEntryAnswer(t *testing.T) {
	s, _ := fresh(t, examples())
	for n := range len(story()) + 1 {
		answers := record.Answers(people, story()[:n])
		for _, place := range edges(n) {
			ev, e := s.Event(place)
			b, f := s.Entry(place)
			a, g := s.Answer(place)
			if place < 0 || place >= n {
				if e != api.ENONE || f != api.ENONE || g != api.ENONE || !sameEvent(ev, api.Event{}) || len(b) != 0 || !sameAnswer(a, api.Answer{}) {
					t.Errorf("P12.5: %d events, the place %d: %+v %d, %v %d, %+v %d", n, place, ev, e, b, f, a, g)
				}
				continue
			}
			want, _ := record.Event(32, uint32(place), story()[place], answers[place])
			if e != api.OK || !sameEvent(ev, want) {
				t.Errorf("P12.5: Event(%d) of %d: %+v, %d, want %+v", place, n, ev, e, want)
			}
			if f != api.OK || !bytes.Equal(b, bytesOf(t, want)) {
				t.Errorf("P12.5: Entry(%d) of %d: %x, %d", place, n, b, f)
			}
			if g != api.OK || !sameAnswer(a, answers[place]) {
				t.Errorf("P12.5: Answer(%d) of %d: %+v, %d, want %+v", place, n, a, g, answers[place])
			}
		}
		if s.Len() != n {
			t.Errorf("P12.5: Len %d, want %d", s.Len(), n)
		}
		if n < len(story()) {
			tell(t, s, story()[n])
		}
	}
}

func TestFind(t *testing.T) {
	s, d := fresh(t, examples())
	for i, r := range story() {
		if place, ok := s.Find(r.Id); place != 0 || ok {
			t.Errorf("P12.5: Find(%v), ahead of its event: %d, %v", r.Id, place, ok)
		}
		tell(t, s, r)
		if place, ok := s.Find(r.Id); place != i || !ok {
			t.Errorf("P12.5: Find(%v): %d, %v, want %d", r.Id, place, ok, i)
		}
	}
	for _, u := range []*store.Store{s, opened(t, examples(), d)} {
		for i, r := range story() {
			if place, ok := u.Find(r.Id); place != i || !ok {
				t.Errorf("P12.5: Find(%v): %d, %v, want %d", r.Id, place, ok, i)
			}
		}
		for _, id := range []api.Id{{}, {Client: 1}, {Number: 2}, {Client: 3, Number: 1}, {Client: 2, Number: 1}, {Client: 1, Number: 1}, {Client: math.MaxUint32, Number: math.MaxUint32}, {Client: 1 << 16, Number: 1}} {
			if place, ok := u.Find(id); place != 0 || ok {
				t.Errorf("P12.5: Find(%v), which is not there: %d, %v", id, place, ok)
			}
		}
	}
}

// TestIdsOfAllKinds: an id is its client and its number, both in whole.
func TestIdsOfAllKinds(t *testing.T) {
	s, d := fresh(t, ofWidth(4))
	numbers := []uint32{0, 1, 2, 256, 1 << 16, 1 << 31, math.MaxUint32}
	place := 0
	for _, client := range numbers {
		for _, number := range numbers {
			r := creates(0)
			r.Id = api.Id{Client: client, Number: number}
			does(t, s, r, place, api.Answer{Id: r.Id, Record: uint32(place + 1), Version: 1}, false, api.OK)
			place++
		}
	}
	if u := opened(t, ofWidth(4), d); seen(u) != seen(s) {
		t.Error("P12.7: opened again, it tells something else")
	}
}

// TestTree holds Root, Path, Proof and Many of every n against merkle's, of stores of some widths.
func TestTree(t *testing.T) {
	for _, w := range []int{1, 2, 20, 32} {
		s, _ := fresh(t, ofWidth(w))
		tell(t, s, story()...)
		p := plain{c: ofWidth(w)}
		for place := range s.Len() {
			p.events = append(p.events, event(t, s, place))
		}
		tree := merkle.New(w)
		for _, b := range entries(t, s) {
			tree.Add(b)
		}
		for _, n := range append(edges(s.Len()), 2, 3, 4, 5, 7, 8, 15, 16, 17) {
			treeOf(t, s, &p, tree, n)
		}
	}
}

// treeOf asks for all that the first n events have of a tree.
func treeOf(t *testing.T, s *store.Store, p *plain, tree *merkle.Tree, n int) {
	t.Helper()
	got, e := s.Root(n)
	if want, f := p.root(n); e != f || !bytes.Equal(got, want) {
		t.Errorf("P12.6: Root(%d): %x, %d, want %x, %d", n, got, e, want, f)
	}
	for _, m := range append(edges(max(0, min(n, s.Len()))), 2, 3, 4, 9) {
		path, e := s.Path(m, n)
		if want, f := p.path(m, n); e != f || !sameHashes(path, want) {
			t.Errorf("P12.6: Path(%d, %d): %x, %d, want %x, %d", m, n, path, e, want, f)
		}
		proof, e := s.Proof(m, n)
		if want, f := p.proof(m, n); e != f || !sameHashes(proof, want) {
			t.Errorf("P12.6: Proof(%d, %d): %x, %d, want %x, %d", m, n, proof, e, want, f)
		}
	}
	for _, places := range [][]int{nil, {}, {0}, {n - 1}, {n}, {-1}, {0, 1}, {1, 0}, {1, 1}, {0, 2, 3, 7}, {0, n - 1}, {0, n}, {math.MinInt}, {math.MaxInt}, {2, 5, 6, 11, 13}} {
		hashes, e := s.Many(places, n)
		want, f := p.many(places, n)
		again, g := tree.Many(places, n)
		if e != f || e != g || !sameHashes(hashes, want) || !sameHashes(hashes, again) {
			t.Errorf("P12.6: Many(%v, %d): %x, %d, want %x, %d", places, n, hashes, e, want, f)
		}
	}
}

// TestTreeOfNone: a store without events has a tree, too.
func TestTreeOfNone(t *testing.T) {
	s, _ := fresh(t, examples())
	if root, e := s.Root(0); e != api.OK || !bytes.Equal(root, merkle.Root(32, nil)) {
		t.Errorf("P12.6: Root(0): %x, %d", root, e)
	}
	if _, e := s.Root(1); e != api.EARG {
		t.Errorf("P12.6: Root(1) of none: %d", e)
	}
	if _, e := s.Path(0, 0); e != api.EARG {
		t.Errorf("P12.6: Path(0, 0): %d", e)
	}
	if proof, e := s.Proof(0, 0); e != api.OK || len(proof) != 0 {
		t.Errorf("P12.6: Proof(0, 0): %x, %d", proof, e)
	}
	if hashes, e := s.Many(nil, 0); e != api.OK || !sameHashes(hashes, [][]byte{merkle.Root(32, nil)}) {
		t.Errorf("P12.6: Many(none, 0): %x, %d", hashes, e)
	}
}

// TestWhatFollows: the answers are record.Answers', and two stores of one Config, one of which takes the other's events, tell the same; so does one that is opened again.
func TestWhatFollows(t *testing.T) {
	for _, w := range []int{1, 3, 32} {
		s, d := fresh(t, ofWidth(w))
		u, _ := fresh(t, ofWidth(w))
		for i, r := range story() {
			_, a, _, _ := s.Do(r)
			want := record.Answers(people, story()[:i+1])
			if !sameAnswer(a, want[i]) {
				t.Errorf("P12.7: %+v is answered %+v, want %+v", r, a, want[i])
			}
			takes(t, u, s)
			if seen(s) != seen(u) {
				t.Fatalf("P12.7: two stores of one Config:\n%s\n%s", seen(s), seen(u))
			}
			if again := opened(t, ofWidth(w), d); seen(again) != seen(s) {
				t.Fatalf("P12.7: opened again:\n%s\n%s", seen(again), seen(s))
			}
		}
		for i, want := range record.Answers(people, story()) {
			if a, e := u.Answer(i); e != api.OK || !sameAnswer(a, want) {
				t.Errorf("P12.7: the answer %d of a store that took the event: %+v, want %+v", i, a, want)
			}
		}
	}
}

// TestGoesOnBehindReplay: behind each beginning of a story the rest is answered alike by who did it, by who took it, and by who was opened.
func TestGoesOnBehindReplay(t *testing.T) {
	l := story()
	for n := range len(l) + 1 {
		s, d := fresh(t, examples())
		tell(t, s, l[:n]...)
		u := opened(t, examples(), d)
		v, _ := fresh(t, examples())
		takes(t, v, s)
		tell(t, u, l[n:]...)
		tell(t, v, l[n:]...)
		whole, _ := fresh(t, examples())
		tell(t, whole, l...)
		if seen(u) != seen(whole) || seen(v) != seen(whole) {
			t.Fatalf("P12.7: opened or taken behind %d requests, it goes on otherwise", n)
		}
	}
}
