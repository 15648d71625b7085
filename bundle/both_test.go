package bundle_test

import (
	"bytes"
	"math"
	"math/rand"
	"slices"
	"testing"

	"almoner/api"
	"almoner/bundle"
)

func oneOf[T any](r *rand.Rand, l []T) T { return l[r.Intn(len(l))] }

// anyPlaces tells some below n, rising most often.
func anyPlaces(r *rand.Rand, n int) []int {
	l := slices.DeleteFunc(upTo(n), func(int) bool { return r.Intn(3) > 0 })
	switch r.Intn(8) {
	case 0:
		l = append(l, r.Intn(n+3)-1)
	case 1:
		l = slices.Insert(l, r.Intn(len(l)+1), oneOf(r, []int{-1, 0, n - 1, n, math.MinInt, math.MaxInt, math.MaxUint32, r.Intn(n + 1)}))
	case 2:
		r.Shuffle(len(l), func(i, j int) { l[i], l[j] = l[j], l[i] })
	}
	return l
}

// anySigned tells a head of the system's, most often one that can be.
func anySigned(r *rand.Rand, y system) api.Signed {
	g := y.head(r.Intn(y.s.Len() + 1))
	switch r.Intn(12) {
	case 0:
		g.Head.Size = oneOf(r, []uint32{0, 1, g.Head.Size + 1, uint32(y.s.Len()), uint32(y.s.Len()) + 1, math.MaxUint32})
	case 1:
		g.Head.Root = turned(g.Head.Root, r.Intn(8*y.w))
	case 2:
		g.Head.Root = make([]byte, r.Intn(35))
	case 3:
		g.Signature = make([]byte, oneOf(r, []int{0, 1, 32767, 32768, 32769}))
	case 4:
		g.Key = r.Uint32() >> r.Intn(32)
	}
	return g
}

// TestAnyMake holds Make and Record against the words.
func TestAnyMake(t *testing.T) {
	r := rand.New(rand.NewSource(1902))
	count := map[api.Errno]int{}
	for range 40 {
		l := story()[:r.Intn(20)]
		y := of(t, 1+r.Intn(4), r.Intn(3), l)
		for range 100 {
			g := anySigned(r, y)
			count[y.makes(t, g, anyPlaces(r, int(min(g.Head.Size, 30))))]++
			number, n := oneOf(r, []uint32{0, 1, 2, 3, 4, 9, math.MaxUint32}), r.Intn(24)-2
			want, e := recordWord(l, number, n)
			records(t, y.s, number, n, want, e)
		}
	}
	for _, e := range []api.Errno{api.OK, api.EARG, api.EPROOF} {
		if count[e] < 300 {
			t.Errorf("%d was answered %d times", e, count[e])
		}
	}
}

// anyChange tells parts with something changed.
func anyChange(r *rand.Rand, y system, p parts) parts {
	p = p.copied()
	switch i := r.Intn(len(p.places) + 1); {
	case r.Intn(4) == 0:
		p = forge(r, p)
	case i < len(p.places) && r.Intn(2) == 0:
		p.places[i] = oneOf(r, []uint32{0, p.places[i] + 1, p.places[i] - 1, math.MaxUint32, p.places[oneOf(r, upTo(len(p.places)))]})
		if r.Intn(2) == 0 {
			p.entries[i] = y.moved(0, p.places[i])
		}
	case i < len(p.places):
		p.entries[i] = turned(p.entries[i], r.Intn(8*len(p.entries[i])))
	case r.Intn(2) == 0:
		p.signed = turned(p.signed, r.Intn(8*len(p.signed)))
	default:
		p.hashes = append(p.hashes, bytes.Repeat([]byte{byte(r.Intn(4))}, y.w-r.Intn(2)))
	}
	return p
}

// TestAnyBundles holds Check against the words at bundles of which something is changed, in their parts or as bytes.
func TestAnyBundles(t *testing.T) {
	r := rand.New(rand.NewSource(1903))
	count := map[api.Errno]int{}
	for _, shape := range []struct{ w, height int }{{1, 0}, {1, 2}, {2, 1}, {4, 6}} {
		y := of(t, shape.w, shape.height, story())
		for range 4000 {
			n := r.Intn(y.s.Len() + 1)
			p := y.parts(y.head(n), slices.DeleteFunc(upTo(n), func(int) bool { return r.Intn(4) > 0 })...)
			for range r.Intn(3) {
				p = anyChange(r, y, p)
			}
			b := p.bytes()
			switch r.Intn(6) {
			case 0:
				b = turned(b, r.Intn(8*len(b)))
			case 1:
				b = b[:r.Intn(len(b))]
			case 2:
				at := r.Intn(len(b) - 3)
				b = slices.Concat(b[:at], number(oneOf(r, []uint32{0, 1, 2, 1 << 31, math.MaxUint32, r.Uint32() >> r.Intn(32)})), b[at+4:])
			}
			count[y.check(t, b)]++
		}
	}
	for _, e := range []api.Errno{api.OK, api.EFORM, api.ESIG, api.EPROOF} {
		if count[e] < 300 {
			t.Errorf("%d was answered %d times", e, count[e])
		}
	}
}

// anyBytes tells some, many of them 0, so that lengths and counts are small.
func anyBytes(r *rand.Rand) []byte {
	b := make([]byte, r.Intn(80))
	for i := range b {
		b[i] = byte(r.Intn(256) * r.Intn(2) * r.Intn(2))
	}
	return b
}

// TestAnyBytes: no call panics, each ends, and each answers what the words say, at any bytes and any numbers.
func TestAnyBytes(t *testing.T) {
	r := rand.New(rand.NewSource(1905))
	y := of(t, 1, 0, five())
	for range 60000 {
		b := anyBytes(r)
		y.check(t, b)
		held(t, oneOf(r, edges()), oneOf(r, edges()), anyBytes(r), b)
		y.check(t, slices.Concat(run(putSigned(y.head(r.Intn(6)))), b))
	}
	for _, n := range []int{1, 1 << 10, 1 << 16} {
		for _, x := range []byte{0, 1, 127, 128, 255} {
			y.answers(t, "one byte again and again", bytes.Repeat([]byte{x}, n), api.EFORM)
		}
	}
}

// TestVeryMany: counts of very many, of which many are there, end soon.
func TestVeryMany(t *testing.T) {
	y := of(t, 1, 0, five())
	head := run(putSigned(y.head(5)))
	const many = 1 << 18
	hashes := slices.Concat(head, number(0), number(many), make([]byte, many))
	y.answers(t, "very many hashes", hashes, api.EPROOF)
	y.answers(t, "one less than is said", hashes[:len(hashes)-1], api.EFORM)
	y.answers(t, "events of no bytes", slices.Concat(head, number(many), make([]byte, 8*many), number(0)), api.EFORM)
	great := run(putSigned(y.sign(0, api.Head{Size: math.MaxUint32, Root: []byte{9}})))
	events := slices.Concat(great, number(1000))
	for place := range uint32(1000) {
		events = slices.Concat(events, number(place<<22), run(y.moved(0, place<<22)))
	}
	y.answers(t, "places that lie far apart", slices.Concat(events, number(0)), api.EPROOF)
	y.answers(t, "places that lie far apart, and many hashes", slices.Concat(events, number(many), make([]byte, many)), api.EPROOF)
}

// TestSameAgain: R5: what is asked twice is answered alike, whatever was asked between.
func TestSameAgain(t *testing.T) {
	y := of(t, 2, 1, story())
	g := y.head(9)
	b := y.make(t, g, 1, 8)
	places, _ := bundle.Record(y.s, 1, 19)
	y.check(t, turned(b, 8*len(b)-1))
	other := of(t, 2, 1, five())
	other.check(t, other.make(t, other.head(5), 0))
	y.refuses(t, "another place", g, []int{9}, api.EARG)
	if !bytes.Equal(y.make(t, g, 1, 8), b) {
		t.Error("R5: Make tells another bundle")
	}
	records(t, y.s, 1, 19, places, api.OK)
	tells(t, y.keys.Public(), b, g, y, 1, 8)
}
