package bundle_test

import (
	"bytes"
	"runtime"
	"slices"
	"testing"

	"almoner/api"
	"almoner/bundle"
)

const roomBehind = 40

// roomy tells a copy of a list with spare room that is not empty.
func roomy[T any](l []T, spare T) []T {
	all := append(slices.Clone(l), slices.Repeat([]T{spare}, roomBehind)...)
	return all[:len(l)]
}

// isAsHanded tells whether a list of roomy's is as it was, its spare room too.
func isAsHanded[T comparable](l, was []T, spare T) bool {
	n := len(was) + roomBehind
	return slices.Equal(l[:n], roomy(was, spare)[:n])
}

// scribble writes over a list and its spare room.
func scribble[T any](l []T, v T) {
	l = l[:cap(l)]
	for i := range l {
		l[i] = v
	}
}

var spare = api.Field{Name: "spare", Kind: 9, Text: "spare", Value: 9, Unit: 9}

// view tells all that a store tells of itself here.
func (y system) view() string {
	all := slices.Concat(y.entries()...)
	for n := range y.s.Len() + 1 {
		all = append(all, y.root(n)...)
	}
	return string(all)
}

// TestWhatIsHandedToMake is not changed and not kept, whatever it answers.
func TestWhatIsHandedToMake(t *testing.T) {
	y := of(t, 2, 1, story())
	was := y.view()
	g := y.head(11)
	wrong, unfit := g, g
	wrong.Head.Root = []byte{1, 2}
	unfit.Head.Root = make([]byte, 33)
	for _, c := range []struct {
		g      api.Signed
		places []int
	}{{g, nil}, {g, []int{}}, {g, []int{1, 4, 7}}, {g, upTo(11)}, {g, []int{4, 1}}, {g, []int{11}}, {wrong, []int{3}}, {unfit, []int{3}}} {
		want, e := y.makeWord(c.g, c.places)
		lent := c.g
		lent.Head.Root, lent.Signature = roomy(c.g.Head.Root, 77), roomy(c.g.Signature, 77)
		places := roomy(c.places, 77)
		b, got := bundle.Make(y.s, lent, places)
		if got != e {
			t.Fatalf("P19.2: Make of %v: %d, want %d", c.places, got, e)
		}
		if !isAsHanded(lent.Head.Root, c.g.Head.Root, 77) || !isAsHanded(lent.Signature, c.g.Signature, 77) || !isAsHanded(places, c.places, 77) {
			t.Errorf("P19.5: Make of %v changes what it is handed", c.places)
		}
		scribble(lent.Head.Root, 0)
		scribble(lent.Signature, 0)
		scribble(places, 0)
		if !bytes.Equal(b, want) {
			t.Errorf("P19.5: the bundle of %v shares memory with what was handed in", c.places)
		}
		if y.view() != was {
			t.Fatalf("P19.5: Make of %v changes the store", c.places)
		}
	}
}

// TestWhatIsHandedToCheck is not changed and not kept, whatever it answers.
func TestWhatIsHandedToCheck(t *testing.T) {
	y := of(t, 2, 1, story())
	g := y.head(19)
	for _, places := range [][]int{nil, {1}, {1, 3, 6, 12, 18}, upTo(19)} {
		good := y.make(t, g, places...)
		for what, b := range map[string][]byte{
			"it":                 good,
			"a byte less":        good[:len(good)-1],
			"a byte more":        append(bytes.Clone(good), 0),
			"another hash":       turned(good, 8*len(good)-1),
			"another signature":  turned(good, 8*60),
			"a count too great":  slices.Concat(good[:4+len(putSigned(g))], []byte{255}, good[4+len(putSigned(g))+1:]),
			"a length too great": append([]byte{255}, good[1:]...),
		} {
			lent, public := roomy(b, 77), roomy(y.keys.Public(), 77)
			s, l, e := bundle.Check(2, 1, public, lent)
			if !isAsHanded(lent, b, 77) || !isAsHanded(public, y.keys.Public(), 77) {
				t.Errorf("P19.5: Check of %s changes what it is handed", what)
			}
			scribble(lent, 1)
			scribble(public, 1)
			s2, l2, e2 := checkWord(2, 1, y.keys.Public(), b)
			if e != e2 || !sameSigned(s, s2) || !slices.EqualFunc(l, l2, sameEvent) {
				t.Errorf("P19.5: what Check of %s answers, %d, shares memory with what was handed in", what, e)
			}
		}
	}
}

// TestWhatIsHandedOut is new memory: who writes over it changes no store, and no other answer.
func TestWhatIsHandedOut(t *testing.T) {
	y := of(t, 2, 1, story())
	was := y.view()
	g := y.head(19)
	places := []int{1, 3, 6, 12, 18}
	want := y.make(t, g, places...)
	for range 2 {
		b, _ := bundle.Make(y.s, g, places)
		scribble(b, 77)
		l, _ := bundle.Record(y.s, 1, 19)
		scribble(l, 77)
		if y.view() != was || !bytes.Equal(y.make(t, g, places...), want) {
			t.Fatal("P19.5: who writes over a bundle changes the store")
		}
		records(t, y.s, 1, 19, []int{1, 3, 10, 11, 12, 13}, api.OK)
	}
	b := bytes.Clone(want)
	s, l, _ := bundle.Check(2, 1, y.keys.Public(), b)
	s2, l2, _ := bundle.Check(2, 1, y.keys.Public(), b)
	scribble(s.Head.Root, 77)
	scribble(s.Signature, 77)
	for _, event := range l {
		scribble(event.Request.Fields, spare)
		scribble(event.Digest, 77)
	}
	scribble(l, api.Event{})
	if !bytes.Equal(b, want) {
		t.Error("P19.5: who writes over what Check answers changes what it was handed")
	}
	if !sameSigned(s2, g) || len(l2) != len(places) {
		t.Error("P19.5: two answers of Check share memory")
	}
	for i, place := range places {
		if event, _ := y.s.Event(place); !sameEvent(l2[i], event) {
			t.Error("P19.5: two answers of Check share events")
		}
	}
}

// TestNoTwoListsShare: of one answer each list has memory of its own, spare room too.
func TestNoTwoListsShare(t *testing.T) {
	y := of(t, 2, 1, story())
	b := y.make(t, y.head(19), upTo(19)...)
	const lists = 2 + 2*19
	for spoilt := range lists {
		s, l, _ := bundle.Check(2, 1, y.keys.Public(), b)
		s2, l2, _ := bundle.Check(2, 1, y.keys.Public(), b)
		at := 0
		spoil := func(write func()) {
			if at == spoilt {
				write()
			}
			at++
		}
		spoil(func() { scribble(s.Head.Root, 77); s2.Head.Root = s.Head.Root })
		spoil(func() { scribble(s.Signature, 77); s2.Signature = s.Signature })
		for i := range l {
			spoil(func() { scribble(l[i].Digest, 77); l2[i].Digest = l[i].Digest })
			spoil(func() {
				for j := range l[i].Request.Fields[:cap(l[i].Request.Fields)] {
					l[i].Request.Fields[:j+1][j] = api.Field{Name: "z" + string(rune('a'+j)), Kind: api.FieldText}
				}
				l2[i].Request.Fields = l[i].Request.Fields
			})
		}
		if !sameSigned(s, s2) || !slices.EqualFunc(l, l2, sameEvent) {
			t.Errorf("R4: the list %d shares memory with another one of the answer", spoilt)
		}
	}
}

// TestWhatWasToldStays: answers are not changed by what comes later.
func TestWhatWasToldStays(t *testing.T) {
	y := of(t, 2, 1, story())
	g := y.head(11)
	b := y.make(t, g, 1, 6)
	was := bytes.Clone(b)
	l, _ := bundle.Record(y.s, 1, 19)
	s, events, _ := bundle.Check(2, 1, y.keys.Public(), b)
	y.make(t, y.head(19), 3, 4)
	y.s.Do(api.Request{Id: api.Id{Client: 9}, Actor: 3, Op: api.OpRead, Record: 1})
	bundle.Record(y.s, 2, 20)
	y.check(t, y.make(t, y.head(20), 19))
	if !bytes.Equal(b, was) || !slices.Equal(l, []int{1, 3, 10, 11, 12, 13}) || !sameSigned(s, g) {
		t.Error("R4: what was told has changed")
	}
	for i, place := range []int{1, 6} {
		if event, _ := y.s.Event(place); !sameEvent(events[i], event) {
			t.Error("R4: an event that was told has changed")
		}
	}
}

// TestNothingIsKept: of long lists nothing is held on to by what is answered.
func TestNothingIsKept(t *testing.T) {
	y := of(t, 32, 0, story())
	good := y.make(t, y.head(19), upTo(19)...)
	type answer struct {
		s api.Signed
		l []api.Event
	}
	var all []answer
	before := heap()
	for range 40 {
		b := append(make([]byte, 0, 1<<20), good...)
		s, l, e := bundle.Check(32, 0, y.keys.Public(), b)
		if e != api.OK {
			t.Fatal(e)
		}
		all = append(all, answer{s, l})
	}
	kept := heap() - before
	runtime.KeepAlive(all)
	if kept > 8<<20 {
		t.Errorf("P19.5: %d bytes are kept of 40 bundles of %d", kept, len(good))
	}
}

// heap tells how many bytes are in use, once what pools have kept back is gone, too.
func heap() int64 {
	for range 3 {
		runtime.GC()
	}
	var m runtime.MemStats
	runtime.ReadMemStats(&m)
	return int64(m.HeapAlloc)
}
