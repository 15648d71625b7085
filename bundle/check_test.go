package bundle_test

import (
	"bytes"
	"fmt"
	"math"
	"slices"
	"testing"

	"almoner/api"
	"almoner/bundle"
	"almoner/lamport"
	"almoner/merkle"
)

// edges are numbers about the limits of widths and heights, and far from them.
func edges() []int {
	return []int{math.MinInt, math.MinInt32, -32, -1, 0, 1, 2, 4, 6, 7, 8, 31, 32, 33, 64, 255, 256, 257, 1 << 16, math.MaxInt32, math.MaxUint32, math.MaxUint32 + 2, math.MaxInt}
}

// TestCheckArguments: EARG comes ahead of all else.
func TestCheckArguments(t *testing.T) {
	y := of(t, 2, 1, five())
	good := y.make(t, y.head(5), 0, 3)
	y.answers(t, "it", good, api.OK)
	for _, w := range edges() {
		for _, height := range edges() {
			for n := range 35 {
				public := make([]byte, n)
				if n == 2 {
					public = y.keys.Public()
				}
				mayBe := w >= 1 && w <= api.MaxWidth && height >= 0 && height <= api.MaxHeight && n == w
				for _, b := range [][]byte{good, nil, good[1:], turned(good, 8*60), turned(good, 8*len(good)-1)} {
					e := held(t, w, height, public, b)
					if (e == api.EARG) == mayBe {
						t.Fatalf("P19.3: Check(%d, %d, %d bytes, %d bytes): %d", w, height, n, len(b), e)
					}
				}
			}
		}
	}
}

// TestCheckUnderOthers: other heights, public hashes and widths than those of the bundle.
func TestCheckUnderOthers(t *testing.T) {
	y := of(t, 4, 2, five())
	good := y.make(t, y.head(5), 0, 3)
	for height := range api.MaxHeight + 1 {
		want := api.ESIG
		if height == 2 {
			want = api.OK
		}
		if e := held(t, 4, height, y.keys.Public(), good); e != want {
			t.Errorf("P19.3: with height %d: %d, want %d", height, e, want)
		}
	}
	for bit := range 32 {
		if e := held(t, 4, 2, turned(y.keys.Public(), bit), good); e != api.ESIG {
			t.Errorf("P19.3: under another public hash: %d, want ESIG", e)
		}
	}
	for w := 1; w <= api.MaxWidth; w++ {
		public := append(y.keys.Public(), make([]byte, api.MaxWidth)...)[:w]
		if e := held(t, w, 2, public, good); (e == api.EFORM) == (w == 4) {
			t.Errorf("P19.3: with the width %d: %d", w, e)
		}
	}
	for _, none := range [][]byte{nil, {0}, make([]byte, 12), make([]byte, 16)} {
		y.answers(t, "bytes of nothing", none, api.EFORM)
	}
}

// TestCheckOfBytesCut: with each beginning of a bundle, each end of it, and a byte or more behind or ahead.
func TestCheckOfBytesCut(t *testing.T) {
	y := of(t, 2, 1, five())
	for _, places := range [][]int{nil, {0}, {4}, {0, 1, 4}, upTo(5)} {
		good := y.make(t, y.head(5), places...)
		y.answers(t, "it", good, api.OK)
		for n := range good {
			y.answers(t, fmt.Sprintf("its first %d bytes", n), good[:n], api.EFORM)
			y.answers(t, fmt.Sprintf("all behind its first %d", n+1), good[n+1:], api.EFORM)
		}
		for _, more := range [][]byte{{0}, {255}, {0, 0}, {0, 0, 0, 0}, make([]byte, 100), good} {
			y.answers(t, "more behind", slices.Concat(good, more), api.EFORM)
			y.answers(t, "more ahead", slices.Concat(more, good), api.EFORM)
		}
	}
}

// numbersOf tells where the numbers of a bundle lie: how many bytes of the head, events, bytes of entries, hashes there are.
func numbersOf(p parts) (at []int) {
	at = append(at, 0, 4+len(p.signed))
	next := 4 + len(p.signed) + 4
	for _, entry := range p.entries {
		at = append(at, next+4)
		next += 8 + len(entry)
	}
	return append(at, next)
}

// TestCheckOfNumbersTurned: lengths and counts that are too small, too great, very great.
func TestCheckOfNumbersTurned(t *testing.T) {
	y := of(t, 2, 1, five())
	for _, places := range [][]int{nil, {0}, {4}, {0, 1, 4}, {1, 2}, upTo(5)} {
		p := y.parts(y.head(5), places...)
		good := p.bytes()
		for _, at := range numbersOf(p) {
			is := uint32(good[at])<<24 | uint32(good[at+1])<<16 | uint32(good[at+2])<<8 | uint32(good[at+3])
			for _, n := range []uint32{
				0, 1, 2, 3, is - 1, is - 2, is + 1, is + 2, is + 3, is + 4, is + 8, uint32(len(good)), uint32(len(good) - at - 4), uint32(len(good)-at-4) + 1,
				is << 8, is | 1<<16, is | 1<<31, 1 << 30, 1<<30 + is, 1<<31 - 1, 1 << 31, 1<<31 + is, math.MaxUint32 - 3, math.MaxUint32 - is, math.MaxUint32 - 1, math.MaxUint32,
			} {
				if n == is {
					continue
				}
				b := slices.Concat(good[:at], number(n), good[at+4:])
				y.answers(t, fmt.Sprintf("%v: %d in the place of %d at %d", places, n, is, at), b, api.EFORM)
			}
			y.answers(t, "the lowest byte first", slices.Concat(good[:at], []byte{good[at+3], good[at+2], good[at+1], good[at]}, good[at+4:]), formIf(is != 0))
		}
	}
}

func formIf(bad bool) api.Errno {
	if bad {
		return api.EFORM
	}
	return api.OK
}

// TestCheckOfHashesCounted: so many as are said are there, but more or fewer than lead to the root: that is a form, and no proof.
func TestCheckOfHashesCounted(t *testing.T) {
	y := of(t, 2, 1, five())
	for _, places := range subsets(5) {
		p := y.parts(y.head(5), places...)
		for n := range len(p.hashes) {
			q := p.copied()
			q.hashes = q.hashes[:n]
			y.answers(t, "fewer hashes", q.bytes(), api.EPROOF)
		}
		for range 5 {
			p.hashes = append(p.hashes, y.root(5))
			y.answers(t, "more hashes", p.bytes(), api.EPROOF)
		}
	}
}

// moved tells an event's entry as that of another place.
func (y system) moved(place int, to uint32) []byte {
	event, e := y.s.Event(place)
	if e != api.OK {
		panic(e)
	}
	event.Place = to
	return putEvent(event)
}

// TestCheckOfPlaces: places that do not rise, are not below the size, or not the entry's own.
func TestCheckOfPlaces(t *testing.T) {
	y := of(t, 4, 1, story())
	const size = 11
	g := y.head(size)
	good := y.parts(g, 1, 4, 7)
	y.answers(t, "it", good.bytes(), api.OK)
	for what, places := range map[string][]uint32{
		"the first two about": {4, 1, 7},
		"the last two about":  {1, 7, 4},
		"all about":           {7, 4, 1},
		"the first twice":     {1, 1, 7},
		"the last twice":      {1, 7, 7},
		"all one":             {4, 4, 4},
		"the last the size":   {1, 4, size},
		"the last greater":    {1, 4, size + 1},
		"the first the size":  {size, size + 1, size + 2},
		"very great":          {1, 4, math.MaxUint32},
		"very great twice":    {1, math.MaxUint32, math.MaxUint32},
		"0 behind very great": {1, math.MaxUint32, 0},
	} {
		p := good.copied()
		for i, place := range places {
			p.places[i] = place
			p.entries[i] = y.moved(i, place)
		}
		y.answers(t, what, p.bytes(), api.EFORM)
	}
	for i, place := range good.places {
		for to := range uint32(y.s.Len() + 2) {
			if to == place {
				continue
			}
			said, own, both := good.copied(), good.copied(), good.copied()
			said.places[i] = to
			y.answers(t, "a place that is not the entry's own", said.bytes(), api.EFORM)
			own.entries[i] = y.moved(int(place), to)
			y.answers(t, "an entry of another place", own.bytes(), api.EFORM)
			both.places[i], both.entries[i] = to, y.moved(int(place), to)
			want := api.EFORM
			if isBetween := to < size && (i == 0 || to > good.places[i-1]) && (i == 2 || to < good.places[i+1]); isBetween {
				want = api.EPROOF
			}
			y.answers(t, "another place that is the entry's own", both.bytes(), want)
		}
	}
}

// TestCheckOfPlacesOfAGreatHead: the last place is one below the size, however great that is.
func TestCheckOfPlacesOfAGreatHead(t *testing.T) {
	y := of(t, 2, 1, five())
	for _, size := range []uint32{0, 1, 2, 1<<31 - 1, 1 << 31, 1<<31 + 1, math.MaxUint32} {
		signed := putSigned(y.sign(0, api.Head{Size: size, Root: []byte{1, 2}}))
		one := func(place uint32) parts {
			return parts{signed: signed, places: []uint32{place}, entries: [][]byte{y.moved(0, place)}}
		}
		if size > 1 { // else it may be that the leaf is the root
			y.answers(t, "the last place", one(size-1).bytes(), api.EPROOF)
		}
		y.answers(t, "the size", one(size).bytes(), api.EFORM)
		if size > 2 {
			two := one(size - 2)
			two.places, two.entries = append(two.places, size-1), append(two.entries, y.moved(1, size-1))
			y.answers(t, "the last two places", two.bytes(), api.EPROOF)
			two.places[0], two.entries[0] = two.places[1], two.entries[1]
			y.answers(t, "the last place twice", two.bytes(), api.EFORM)
		}
	}
}

// chainOf tells the one event's way up at the place 0 of very many: the hashes beside it, and the root to which they lead.
func (y system) chainOf(entry []byte, depth int) (hashes [][]byte, root []byte) {
	for i := range depth {
		hashes = append(hashes, bytes.Repeat([]byte{byte(i)}, y.w))
	}
	leaf := [][]byte{merkle.Leaf(y.w, entry)}
	root, unused, ok := topWord(y.w, leaf, []int{0}, 1<<depth, hashes)
	if !ok || len(unused) > 0 {
		panic("no way up")
	}
	return hashes, root
}

// TestCheckOfAGreatHead: one that nobody has a log of is taken, if it holds, and hashes lead to it.
func TestCheckOfAGreatHead(t *testing.T) {
	y := of(t, 2, 1, five())
	entry := y.entries()[0]
	for _, depth := range []int{1, 2, 12, 13, 30, 31} {
		hashes, root := y.chainOf(entry, depth)
		g := y.sign(1, api.Head{Size: 1 << depth, Root: root})
		p := parts{putSigned(g), []uint32{0}, [][]byte{entry}, hashes}
		tells(t, y.keys.Public(), p.bytes(), g, y, 0)
		y.answers(t, "a great head", p.bytes(), api.OK)
		p.hashes = p.hashes[1:]
		y.answers(t, "a hash less", p.bytes(), api.EPROOF)
	}
	for _, size := range []uint32{0, 1, 4096, 4097, 1 << 31, math.MaxUint32} {
		// Of no events the one hash is the root, whatever that is: of size 0, too.
		g := y.sign(0, api.Head{Size: size, Root: []byte{9, 9}})
		p := parts{signed: putSigned(g), hashes: [][]byte{{9, 9}}}
		tells(t, y.keys.Public(), p.bytes(), g, y)
		p.hashes[0] = []byte{9, 8}
		y.answers(t, "another root", p.bytes(), api.EPROOF)
	}
}

// TestCheckOfEntries: an entry that is none.
func TestCheckOfEntries(t *testing.T) {
	y := of(t, 4, 1, story())
	good := y.parts(y.head(11), 1, 4, 7)
	for i := range good.entries {
		entry := good.entries[i]
		bad := map[string][]byte{
			"nothing":           nil,
			"a byte":            {3},
			"a head":            {4, 0, 0, 0, 1, 0, 0, 0, 1, 7},
			"its request alone": append([]byte{1}, entry[5:]...),
			"a byte more":       append(bytes.Clone(entry), 0),
			"another form":      append([]byte{2}, entry[1:]...),
			"twice":             slices.Concat(entry, entry),
			"a whole bundle":    good.bytes(),
			"no code":           append(bytes.Clone(entry[:len(entry)-9]), append([]byte{11}, entry[len(entry)-8:]...)...),
			"no digest":         append(bytes.Clone(entry[:len(entry)-8]), 0, 0, 0, 0),
			"a long digest":     slices.Concat(entry[:len(entry)-8], number(33), make([]byte, 33)),
			"no op":             slices.Concat(entry[:17], []byte{8}, entry[18:]),
		}
		for n := range entry {
			bad[fmt.Sprintf("its first %d bytes", n)] = entry[:n]
		}
		for what, b := range bad {
			p := good.copied()
			p.entries[i] = b
			y.answers(t, what, p.bytes(), api.EFORM)
		}
		for many := 1; many <= api.MaxWidth; many++ { // of another width than the hashes: that is an event's, too
			p := good.copied()
			p.entries[i] = slices.Concat(entry[:len(entry)-8], run(make([]byte, many)))
			y.answers(t, "another digest", p.bytes(), api.EPROOF)
		}
	}
}

// TestCheckOfHeads: bytes of the head that are none, or of a root that has not w bytes.
func TestCheckOfHeads(t *testing.T) {
	y := of(t, 4, 1, story())
	g := y.head(11)
	good := y.parts(g, 1, 4, 7)
	head := good.signed
	bad := map[string][]byte{
		"nothing":               nil,
		"a head without a key":  head[:13],
		"a byte more":           append(bytes.Clone(head), 0),
		"another form":          append([]byte{4}, head[1:]...),
		"no root":               slices.Concat(head[:5], number(0), head[13:]),
		"a very long root":      slices.Concat(head[:5], number(33), make([]byte, 33), head[13:]),
		"a very long signature": slices.Concat(head[:17], run(make([]byte, 32769))),
		"a whole bundle":        good.bytes(),
	}
	for n := range head {
		bad[fmt.Sprintf("its first %d bytes", n)] = head[:n]
	}
	for many := 1; many <= api.MaxWidth; many++ {
		if many != 4 {
			bad[fmt.Sprintf("a root of %d bytes", many)] = putSigned(y.sign(0, api.Head{Size: 11, Root: make([]byte, many)}))
		}
	}
	for what, b := range bad {
		p := good.copied()
		p.signed = b
		y.answers(t, what, p.bytes(), api.EFORM)
		p.places, p.entries = nil, nil
		y.answers(t, what+", no events", p.bytes(), api.EFORM)
	}
}

// unheld are signed heads of a form that do not hold.
func unheld(y system, g api.Signed) map[string]api.Signed {
	key, far, none, short, long, other, size, root := g, g, g, g, g, g, g, g
	key.Key ^= 1
	far.Key += uint32(y.keys.Len())
	none.Signature = nil
	short.Signature = g.Signature[1:]
	long.Signature = append(bytes.Clone(g.Signature), 0)
	other.Signature = y.sign(int(g.Key), api.Head{Size: g.Head.Size + 1, Root: g.Head.Root}).Signature
	size.Head.Size++
	root.Head.Root = turned(g.Head.Root, 3)
	all := map[string]api.Signed{"another key": key, "no key": far, "no signature": none, "a byte less": short, "a byte more": long, "that of another head": other, "another size": size, "another root": root}
	for _, shift := range []int{8, 31} {
		wrapped := g
		wrapped.Key |= 1 << shift
		all[fmt.Sprintf("a key with the bit %d", shift)] = wrapped
	}
	return all
}

// TestCheckOfSignatures: heads that do not hold.
func TestCheckOfSignatures(t *testing.T) {
	y := of(t, 4, 2, story())
	g := y.head(11)
	good := y.parts(g, 1, 4, 7)
	for what, signed := range unheld(y, g) {
		p := good.copied()
		p.signed = putSigned(signed)
		y.answers(t, what, p.bytes(), api.ESIG)
	}
	zeros := bytes.Repeat([]byte{0}, lamport.Size(4, 2))
	p := good.copied()
	p.signed = putSigned(api.Signed{Head: g.Head, Key: g.Key, Signature: zeros})
	y.answers(t, "zeros", p.bytes(), api.ESIG)
	for key := range 4 { // by each key it holds
		p.signed = putSigned(y.sign(key, g.Head))
		y.answers(t, "by each key", p.bytes(), api.OK)
	}
}

// TestCheckOfProofs: hashes that do not lead to the root.
func TestCheckOfProofs(t *testing.T) {
	y := of(t, 8, 1, story())
	good := y.parts(y.head(11), 1, 4, 7)
	for i := range good.hashes {
		about, less, twice := good.copied(), good.copied(), good.copied()
		next := (i + 1) % len(good.hashes)
		about.hashes[i], about.hashes[next] = about.hashes[next], about.hashes[i]
		y.answers(t, "two hashes about", about.bytes(), api.EPROOF)
		less.hashes = slices.Delete(less.hashes, i, i+1)
		y.answers(t, "a hash less", less.bytes(), api.EPROOF)
		twice.hashes = slices.Insert(twice.hashes, i, twice.hashes[i])
		y.answers(t, "a hash twice", twice.bytes(), api.EPROOF)
	}
	for i := range good.places {
		p := good.copied()
		p.places, p.entries = slices.Delete(p.places, i, i+1), slices.Delete(p.entries, i, i+1)
		y.answers(t, "an event less", p.bytes(), api.EPROOF)
	}
	p := y.parts(y.head(11), 1, 4, 7, 8)
	p.hashes = good.hashes
	y.answers(t, "an event more", p.bytes(), api.EPROOF)
	p.places, p.entries, p.hashes = nil, nil, nil
	y.answers(t, "neither events nor hashes", p.bytes(), api.EPROOF)
	p = y.parts(y.head(10), 1, 4, 7)
	p.hashes = good.hashes
	y.answers(t, "the head of another size", p.bytes(), api.EPROOF)
	p = good.copied()
	for size := uint32(8); size < 40; size++ { // how many lie in a part without places the hashes do not show
		want := api.EPROOF
		if size > 8 && size <= 16 {
			want = api.OK
		}
		p.signed = putSigned(y.sign(0, api.Head{Size: size, Root: y.root(11)}))
		y.answers(t, "another size that was signed", p.bytes(), want)
	}
	p.signed = putSigned(y.sign(0, api.Head{Size: 11, Root: y.root(12)}))
	y.answers(t, "another root that was signed", p.bytes(), api.EPROOF)
}

// TestCheckOfEachBit turns each bit of a bundle; with eight bytes no hashes meet.
func TestCheckOfEachBit(t *testing.T) {
	y := of(t, 8, 1, story())
	p := y.parts(y.head(7), 1, 3)
	good := p.bytes()
	signedEnd := 4 + len(p.signed)
	hashesAt := len(good) - 8*len(p.hashes)
	keyAt, signatureAt := 4+1+4+4+8, 4+1+4+4+8+4+4
	count := map[api.Errno]int{}
	for bit := range 8 * len(good) {
		at := bit / 8
		e := y.check(t, turned(good, bit))
		count[e]++
		want := []api.Errno{api.EFORM} // lengths, counts, places, forms
		switch {
		case at >= 5 && at < 9: // the size: below it may come the places
			want = []api.Errno{api.ESIG, api.EFORM}
		case at >= 13 && at < keyAt+4 || at >= signatureAt && at < signedEnd: // the root, the key, the signature
			want = []api.Errno{api.ESIG}
		case at >= signedEnd && at < hashesAt-4: // an entry may be none, or another
			want = []api.Errno{api.EFORM, api.EPROOF}
		case at >= hashesAt:
			want = []api.Errno{api.EPROOF}
		}
		if !slices.Contains(want, e) {
			t.Errorf("P19.3: with the bit %d of the byte %d turned: %d, want one of %v", bit%8, at, e, want)
		}
	}
	if count[api.EFORM] < 300 || count[api.ESIG] < 8*1024 || count[api.EPROOF] < 300 {
		t.Errorf("P19.3: bits turned: %v", count)
	}
}

// TestWhichComesFirst: EARG ahead of EFORM ahead of ESIG ahead of EPROOF.
func TestWhichComesFirst(t *testing.T) {
	y := of(t, 4, 1, story())
	good := y.parts(y.head(11), 1, 4, 7)
	form := map[string]func(p *parts){
		"none":                 func(*parts) {},
		"an entry":             func(p *parts) { p.entries[2] = p.entries[2][1:] },
		"a place":              func(p *parts) { p.places[0]++ },
		"places about":         func(p *parts) { p.places[0], p.entries[0] = 5, y.moved(0, 5) },
		"the size of the head": func(p *parts) { p.places[2], p.entries[2] = 11, y.moved(0, 11) },
		"a hash":               func(p *parts) { p.hashes[0] = p.hashes[0][1:] },
		"a byte more":          func(p *parts) { p.hashes[len(p.hashes)-1] = append(p.hashes[len(p.hashes)-1], 0) },
		"the head":             func(p *parts) { p.signed = append(p.signed, 0) },
	}
	for what, spoil := range form {
		for mask := range 4 {
			p := good.copied()
			want := api.OK
			if mask&1 != 0 { // no proof
				p.hashes[1] = turned(p.hashes[1], 0)
				want = api.EPROOF
			}
			if mask&2 != 0 { // does not hold
				p.signed = turned(p.signed, 8*len(p.signed)-1)
				want = api.ESIG
			}
			if what != "none" {
				want = api.EFORM
			}
			spoil(&p)
			b := p.bytes()
			y.answers(t, fmt.Sprintf("%s, %d", what, mask), b, want)
			for _, c := range []struct{ w, height, many int }{{0, 1, 0}, {33, 1, 33}, {4, 7, 4}, {4, -1, 4}, {4, 1, 3}, {4, 1, 5}, {4, 1, 0}} {
				if _, _, e := bundle.Check(c.w, c.height, make([]byte, c.many), b); e != api.EARG {
					t.Errorf("P19.3: %s, %d: Check(%d, %d, %d bytes): %d, want EARG", what, mask, c.w, c.height, c.many, e)
				}
			}
		}
	}
}
