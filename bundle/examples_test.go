package bundle_test

import (
	"slices"
	"testing"

	"almoner/api"
	"almoner/bundle"
	"almoner/keyring"
)

// TestExamples goes through the chapter's table.
func TestExamples(t *testing.T) {
	y := of(t, 2, 0, five())
	ring, e := keyring.Open(configOf(2, 0), y.d, "keys")
	if e != api.OK {
		t.Fatal(e)
	}
	public := ring.Public()
	g, e := ring.Sign(api.Head{Size: 5, Root: y.root(5)})
	if e != api.OK || g.Key != 0 {
		t.Fatalf("Sign: the key %d, %d", g.Key, e)
	}

	for _, c := range []struct {
		record uint32
		n      int
		want   []int
		e      api.Errno
	}{{1, 5, []int{0, 1, 4}, api.OK}, {1, 4, []int{0, 1}, api.OK}, {9, 5, []int{3}, api.OK}, {2, 6, nil, api.EARG}} {
		if l, e := bundle.Record(y.s, c.record, c.n); !slices.Equal(l, c.want) || e != c.e {
			t.Errorf("P19.1: Record(s, %d, %d): %v, %d, want %v, %d", c.record, c.n, l, e, c.want, c.e)
		}
	}

	b := y.make(t, g, 0, 1, 4)
	tells(t, public, b, g, y, 0, 1, 4)

	shorter := g
	shorter.Head.Size = 4
	for _, c := range []struct {
		g      api.Signed
		places []int
		want   api.Errno
	}{{g, []int{1, 0}, api.EARG}, {g, []int{5}, api.EARG}, {shorter, []int{0}, api.EPROOF}} {
		if b, e := bundle.Make(y.s, c.g, c.places); len(b) != 0 || e != c.want {
			t.Errorf("P19.2: Make of size %d, %v: %x, %d, want %d", c.g.Head.Size, c.places, b, e, c.want)
		}
	}

	none := y.make(t, g)
	tells(t, public, none, g, y)
	if beside := len(none) - len(putSigned(g)); beside != 4+4+4+2 {
		t.Errorf("P19.2: a bundle of no events has %d bytes beside its head's", beside)
	}

	refusesExamples(t, y, public, b, len(putSigned(g)))
}

// tells asks Check for a head and the events at places.
func tells(t testing.TB, public, b []byte, g api.Signed, y system, places ...int) {
	t.Helper()
	s, l, e := bundle.Check(y.w, y.height, public, b)
	if e != api.OK || !sameSigned(s, g) || len(l) != len(places) {
		t.Fatalf("P19.3: Check of the events %v: %+v, %d events, %d, want %+v", places, s, len(l), e, g)
	}
	for i, place := range places {
		want, _ := y.s.Event(place)
		if int(l[i].Place) != place || !sameEvent(l[i], want) {
			t.Fatalf("P19.3: Check of the events %v tells %+v, want %+v", places, l[i], want)
		}
	}
}

// refusesExamples is the table's last row. Where hashes of two bytes meet what is turned may hold: then the words say so, too.
func refusesExamples(t *testing.T, y system, public, b []byte, headSize int) {
	t.Helper()
	check := func(height int, b []byte) api.Errno { return held(t, 2, height, public, b) }
	if e := check(0, append(slices.Clone(b), 0)); e != api.EFORM {
		t.Errorf("P19.3: a byte more: %d, want EFORM", e)
	}
	if e := check(1, b); e != api.ESIG {
		t.Errorf("P19.3: with height 1: %d, want ESIG", e)
	}
	entry, _ := y.s.Entry(0)
	inEntry, inSignature := map[api.Errno]int{}, map[api.Errno]int{}
	at := 4 + headSize + 4 + 4 + 4
	for bit := 8 * at; bit < 8*(at+len(entry)); bit++ {
		inEntry[check(0, turned(b, bit))]++
	}
	const signature = 2 * 16 * 2
	for bit := 8 * (4 + headSize - signature); bit < 8*(4+headSize); bit++ {
		inSignature[check(0, turned(b, bit))]++
	}
	if inEntry[api.EPROOF] < 100 || inEntry[api.OK] > 1 || inEntry[api.ESIG] > 0 {
		t.Errorf("P19.3: of the bits of an entry: %v", inEntry)
	}
	if inSignature[api.ESIG] < 8*signature-1 {
		t.Errorf("P19.3: of the bits of the signature: %v", inSignature)
	}
}
