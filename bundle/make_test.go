package bundle_test

import (
	"bytes"
	"encoding/binary"
	"fmt"
	"math"
	"slices"
	"testing"

	"almoner/api"
	"almoner/bundle"
	"almoner/merkle"
	"almoner/wire"
)

// makes holds Make against the words, and tells the error.
func (y system) makes(t testing.TB, signed api.Signed, places []int) api.Errno {
	t.Helper()
	b, e := bundle.Make(y.s, signed, places)
	b2, e2 := y.makeWord(signed, places)
	if e != e2 || !bytes.Equal(b, b2) {
		t.Fatalf("P19.2: Make of %+v, %v: %x, %d, want %x, %d", signed, places, b, e, b2, e2)
	}
	return e
}

// refuses asks for an error of Make.
func (y system) refuses(t testing.TB, what string, signed api.Signed, places []int, want api.Errno) {
	t.Helper()
	if b, e := bundle.Make(y.s, signed, places); len(b) != 0 || e != want {
		t.Errorf("P19.2: %s: Make: %x, %d, want %d", what, b, e, want)
	}
	if e := y.makes(t, signed, places); e != want {
		t.Errorf("P19.2: %s: by the words: %d, want %d", what, e, want)
	}
}

// badPlaces are such as may not be among n.
func badPlaces(n int) map[string][]int {
	all := map[string][]int{
		"below 0":                {-1},
		"below 0, then right":    {-1, 0},
		"far below 0":            {math.MinInt},
		"the size":               {n},
		"greater":                {n + 1},
		"very great":             {math.MaxInt},
		"above four bytes":       {math.MaxUint32 + 1},
		"right, then very great": append(upTo(n), math.MaxInt),
		"all and the size":       upTo(n + 1),
		"doubled and too great":  {n, n},
	}
	if n > 0 {
		all["twice"] = []int{0, 0}
		all["the last twice"] = append(upTo(n), n-1)
		all["twice with one between"] = []int{0, n, 0}
		all["below 0 behind"] = []int{0, -1}
	}
	if n > 2 {
		all["sinking"] = []int{1, 0}
		all["sinking at the end"] = []int{0, 2, 1}
		back := upTo(n)
		slices.Reverse(back)
		all["all, sinking"] = back
		all["twice in the midst"] = []int{0, 1, 1, 2}
		all["one that wraps round"] = []int{1<<32 + 1}
	}
	return all
}

// unfit are signed heads that wire can't tell.
func unfit(g api.Signed) map[string]api.Signed {
	none, empty, long, signature := g, g, g, g
	none.Head.Root = nil
	empty.Head.Root = []byte{}
	long.Head.Root = make([]byte, api.MaxWidth+1)
	signature.Signature = make([]byte, 32769)
	return map[string]api.Signed{"no root": none, "an empty root": empty, "a root of 33 bytes": long, "a signature of 32769 bytes": signature}
}

func TestMakeOfPlacesThatMayNotBe(t *testing.T) {
	y := of(t, 2, 1, story())
	for _, n := range []int{0, 1, 3, 8, y.s.Len()} {
		g := y.head(n)
		wrong := g
		wrong.Head.Root = []byte{1, 2}
		for what, places := range badPlaces(n) {
			y.refuses(t, fmt.Sprintf("of %d, %s", n, what), g, places, api.EARG)
			y.refuses(t, fmt.Sprintf("of %d, %s, ahead of the root", n, what), wrong, places, api.EARG)
			for why, signed := range unfit(g) {
				y.refuses(t, fmt.Sprintf("of %d, %s, %s", n, what, why), signed, places, api.EARG)
			}
		}
	}
}

func TestMakeOfSizesThatMayNotBe(t *testing.T) {
	for _, l := range [][]api.Request{nil, five()[:1], story()} {
		y := of(t, 2, 1, l)
		n := uint32(y.s.Len())
		for _, size := range []uint32{n + 1, n + 2, api.MaxEvents, api.MaxEvents + 1, 1<<31 - 1, 1 << 31, math.MaxUint32} {
			g := y.head(int(n))
			g.Head.Size = size
			y.refuses(t, "the root of all", g, nil, api.EARG)
			y.refuses(t, "all places", g, upTo(int(n)), api.EARG)
			y.refuses(t, "a place of that size", g, []int{int(size) - 1}, api.EARG)
			g.Head.Root = []byte{1, 2}
			y.refuses(t, "another root", g, nil, api.EARG)
		}
	}
}

func TestMakeOfHeadsThatCantBeTold(t *testing.T) {
	y := of(t, 2, 1, story())
	for _, n := range []int{0, 1, y.s.Len()} {
		for what, signed := range unfit(y.head(n)) {
			y.refuses(t, what, signed, nil, api.EARG)
			y.refuses(t, what, signed, upTo(n), api.EARG)
			signed.Head.Size++
			y.refuses(t, what+", of another size", signed, nil, api.EARG)
		}
	}
}

func TestMakeOfOtherRoots(t *testing.T) {
	for _, w := range []int{1, 2, 32} {
		y := of(t, w, 1, story())
		n := y.s.Len()
		for _, size := range []int{0, 1, 7, n} {
			g := y.head(size)
			for bit := range 8 * w {
				other := g
				other.Head.Root = turned(g.Head.Root, bit)
				y.refuses(t, "another bit in the root", other, nil, api.EPROOF)
				y.refuses(t, "another bit in the root, all places", other, upTo(size), api.EPROOF)
			}
			for many := 1; many <= api.MaxWidth; many++ {
				other := g
				other.Head.Root = append(bytes.Clone(g.Head.Root), make([]byte, api.MaxWidth)...)[:many]
				if many != w {
					y.refuses(t, "a root of another width", other, nil, api.EPROOF)
				}
			}
		}
	}
	y := of(t, 4, 1, story())
	for size := range y.s.Len() + 1 {
		g := y.head(size)
		for other := range y.s.Len() + 1 {
			if other != size {
				g.Head.Size = uint32(other)
				y.refuses(t, "the root of another size", g, nil, api.EPROOF)
			}
		}
	}
}

// TestMakeDoesNotAskTheSignature: whatever it is, if wire can tell it.
func TestMakeDoesNotAskTheSignature(t *testing.T) {
	y := of(t, 2, 1, five())
	for _, key := range []uint32{0, 1, 2, 64, math.MaxUint32} {
		for _, signature := range [][]byte{nil, {}, {1}, make([]byte, 100), bytes.Repeat([]byte{9}, 32767), make([]byte, 32768)} {
			g := api.Signed{Head: api.Head{Size: 5, Root: y.root(5)}, Key: key, Signature: signature}
			if e := y.makes(t, g, []int{1, 3}); e != api.OK {
				t.Errorf("P19.2: by the key %d, with %d bytes: %d", key, len(signature), e)
			}
			y.answers(t, "a signature of its own", y.make(t, g, 1, 3), api.ESIG)
		}
	}
}

// TestBytesOfABundle goes through the bytes, part by part.
func TestBytesOfABundle(t *testing.T) {
	y := of(t, 2, 1, five())
	d := y.entries()
	g := y.head(5)
	l := func(i int) []byte { return merkle.Leaf(2, d[i]) }
	inner := merkle.Node(2, l(0), l(1))
	for _, c := range []struct {
		places []int
		hashes [][]byte
	}{
		{nil, [][]byte{y.root(5)}},
		{[]int{0}, [][]byte{l(1), merkle.Node(2, l(2), l(3)), l(4)}},
		{[]int{3}, [][]byte{inner, l(2), l(4)}},
		{[]int{4}, [][]byte{y.root(4)}},
		{[]int{0, 1, 4}, [][]byte{merkle.Node(2, l(2), l(3))}},
		{[]int{1, 2}, [][]byte{l(0), l(3), l(4)}},
		{[]int{0, 1, 2, 3, 4}, nil},
	} {
		rest := y.make(t, g, c.places...)
		next := func(n int) []byte {
			if n > len(rest) {
				t.Fatalf("P19.2: %v: %d bytes are missing", c.places, n-len(rest))
			}
			part := rest[:n]
			rest = rest[n:]
			return part
		}
		count := func(what string, want int) {
			if n := binary.BigEndian.Uint32(next(4)); n != uint32(want) {
				t.Fatalf("P19.2: %v: %s: %d, want %d", c.places, what, n, want)
			}
		}
		same := func(what string, want []byte) {
			if b := next(len(want)); !bytes.Equal(b, want) {
				t.Fatalf("P19.2: %v: %s: %x, want %x", c.places, what, b, want)
			}
		}
		signed, err := wire.PutSigned(g)
		if err != nil {
			t.Fatal(err)
		}
		count("the signed head's bytes", len(signed))
		same("the signed head", signed)
		count("the events", len(c.places))
		for _, place := range c.places {
			count("a place", place)
			count("an entry's bytes", len(d[place]))
			same("an entry", d[place])
		}
		count("the hashes", len(c.hashes))
		for _, hash := range c.hashes {
			same("a hash", hash)
		}
		if len(rest) != 0 {
			t.Errorf("P19.2: %v: behind all lie %x", c.places, rest)
		}
	}
}

// TestMakeOfAllPlaces: of short logs, all sizes and all lists of places.
func TestMakeOfAllPlaces(t *testing.T) {
	for _, w := range []int{1, 2, 32} {
		for n := range 8 {
			y := of(t, w, 0, story()[:n])
			for size := range n + 1 {
				for _, places := range subsets(size) {
					if e := y.makes(t, y.head(size), places); e != api.OK {
						t.Errorf("P19.2: of width %d, size %d of %d, %v: %d", w, size, n, places, e)
					}
				}
			}
		}
	}
}

// TestMakeOfNothing: of no events a bundle has one hash, which is that of nothing.
func TestMakeOfNothing(t *testing.T) {
	y := of(t, 2, 0, nil)
	b := y.make(t, y.head(0))
	want := slices.Concat(run(putSigned(y.head(0))), number(0), number(1), []byte{0xe3, 0xb0})
	if !bytes.Equal(b, want) {
		t.Errorf("P19.2: of size 0: %x, want %x", b, want)
	}
	y = of(t, 2, 0, five())
	if !bytes.Equal(y.make(t, y.head(0)), want) {
		t.Error("P19.2: of size 0 of five: other bytes than of none")
	}
}

// TestALogAtItsEnd: as many events as there may be.
func TestALogAtItsEnd(t *testing.T) {
	l := slices.Repeat(five(), api.MaxEvents/5+1)[:api.MaxEvents]
	y := of(t, 2, 0, numbered(l...))
	n := api.MaxEvents
	g := y.head(n)
	some := slices.DeleteFunc(upTo(n), func(i int) bool { return i%3 == 0 || i > 4000 })
	for _, places := range [][]int{nil, {0}, {n - 1}, {0, n - 1}, some, upTo(n)} {
		b := y.make(t, g, places...)
		if want := y.parts(g, places...).bytes(); !bytes.Equal(b, want) {
			t.Errorf("P19.2: of %d places of %d: other bytes than the words say", len(places), n)
		}
		tells(t, y.keys.Public(), b, g, y, places...)
	}
	places, e := bundle.Record(y.s, 1, n)
	if want, _ := recordWord(numbered(l...), 1, n); e != api.OK || !slices.Equal(places, want) || len(places) < 1000 {
		t.Errorf("P19.1: of %d events %d speak of the record 1, %d", n, len(places), e)
	}
	tells(t, y.keys.Public(), y.make(t, g, places...), g, y, places...)
	records(t, y.s, 1, n+1, nil, api.EARG)
}
