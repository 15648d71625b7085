package bundle_test

import (
	"bytes"
	"math/rand"
	"slices"
	"testing"

	"almoner/api"
	"almoner/bundle"
	"almoner/disk"
	"almoner/merkle"
	"almoner/node"
	"almoner/sha"
	"almoner/verifier"
	"almoner/wire"
)

// TestCheckTakesWhatMakeAnswers: the head and just these events; a byte less or more is no bundle.
func TestCheckTakesWhatMakeAnswers(t *testing.T) {
	for _, shape := range []struct{ w, height, n int }{{1, 0, 7}, {2, 1, 7}, {4, 6, 6}, {32, 0, 4}} {
		y := of(t, shape.w, shape.height, story()[:shape.n])
		for size := range shape.n + 1 {
			g := y.head(size)
			for _, places := range subsets(size) {
				b := y.make(t, g, places...)
				tells(t, y.keys.Public(), b, g, y, places...)
				y.answers(t, "a byte less", b[:len(b)-1], api.EFORM)
				y.answers(t, "a byte more", append(bytes.Clone(b), 0), api.EFORM)
			}
		}
	}
}

// TestAWholeStory: what Record tells, Make and Check of it tell the events that speak of a record.
func TestAWholeStory(t *testing.T) {
	y := of(t, 32, 2, story())
	for n := range y.s.Len() + 1 {
		for number := range uint32(4) {
			places, e := bundle.Record(y.s, number, n)
			if e != api.OK {
				t.Fatal(e)
			}
			tells(t, y.keys.Public(), y.make(t, y.head(n), places...), y.head(n), y, places...)
		}
	}
}

// collision is two byte strings.
type collision struct{ a, b []byte }

// collide tells two byte strings that differ and have one hash, where leaves, at places, and hashes lead to the root of d, and an entry is not d's: the bytes hashed, from the root down, held against those that the root is made of.
func collide(w int, d, entries [][]byte, places []int, hashes [][]byte) (c collision, atLeaf, ok bool) {
	if len(places) == 0 {
		return c, false, false
	}
	if len(d) == 1 {
		c = collision{append([]byte{0}, entries[0]...), append([]byte{0}, d[0]...)}
		return c, true, !bytes.Equal(c.a, c.b)
	}
	k := kWord(len(d))
	below, others := split(places, k)
	first, second := entries[:len(below)], entries[len(below):]
	left, rest, _ := topWord(w, leavesOf(w, first), below, k, hashes)
	right, _, _ := topWord(w, leavesOf(w, second), others, len(d)-k, rest)
	c = collision{slices.Concat([]byte{1}, left, right), slices.Concat([]byte{1}, merkle.Root(w, d[:k]), merkle.Root(w, d[k:]))}
	if !bytes.Equal(c.a, c.b) {
		return c, false, true
	}
	if c, atLeaf, ok = collide(w, d[:k], first, below, hashes); ok {
		return c, atLeaf, ok
	}
	return collide(w, d[k:], second, others, rest)
}

func leavesOf(w int, entries [][]byte) [][]byte {
	var l [][]byte
	for _, entry := range entries {
		l = append(l, merkle.Leaf(w, entry))
	}
	return l
}

func ints(l []uint32) []int {
	var all []int
	for _, n := range l {
		all = append(all, int(n))
	}
	return all
}

// forge changes some entries, so that they are an event's at their places still, and some hashes.
func forge(r *rand.Rand, p parts) parts {
	p = p.copied()
	for i, entry := range p.entries {
		if event, err := wire.GetEvent(entry); err == nil && r.Intn(2) == 0 {
			event.Request.Actor = uint32(r.Intn(1000))
			p.entries[i] = putEvent(event)
		}
	}
	for i := range p.hashes {
		if r.Intn(3) == 0 {
			r.Read(p.hashes[i])
		}
	}
	return p
}

// isTheLogs tells whether each entry is the log's at its place.
func (p parts) isTheLogs(d [][]byte) bool {
	for i, place := range p.places {
		if !bytes.Equal(p.entries[i], d[place]) {
			return false
		}
	}
	return true
}

// pathOf tells the path of one place that is made of the hashes for it: these are told from the left to the right, that from the leaf's side on.
func pathOf(place, n int, hashes [][]byte) [][]byte {
	if n == 1 {
		return nil
	}
	k, last := kWord(n), len(hashes)-1
	if place < k {
		return append(pathOf(place, k, hashes[:last]), hashes[last])
	}
	return append(pathOf(place-k, n-k, hashes[1:]), hashes[0])
}

// TestForgedBundles: P19.4, T3: with hashes of one byte many are taken; the entries are the log's, or two byte strings that differ and have one hash come out.
func TestForgedBundles(t *testing.T) {
	const w = 1
	r := rand.New(rand.NewSource(1904))
	y := of(t, w, 3, story())
	all := y.entries()
	forged, genuine, atLeaf, alone := 0, 0, 0, 0
	for range 60000 {
		n := 1 + r.Intn(len(all))
		d := all[:n]
		places := slices.DeleteFunc(upTo(n), func(int) bool { return r.Intn(n) > 2 })
		p := forge(r, y.parts(y.head(n), places...))
		if y.check(t, p.bytes()) != api.OK {
			continue
		}
		if p.isTheLogs(d) {
			genuine++
			continue
		}
		c, isLeaf, ok := collide(w, d, p.entries, ints(p.places), p.hashes)
		if !ok || bytes.Equal(c.a, c.b) || !bytes.Equal(sha.Sum(w, c.a), sha.Sum(w, c.b)) {
			t.Fatalf("P19.4: of %d, %v: %v, %x and %x", n, p.places, ok, c.a, c.b)
		}
		forged++
		if isLeaf {
			atLeaf++
		}
		if len(places) == 1 {
			collidesAlone(t, d, p)
			alone++
		}
	}
	if forged < 100 || genuine < 100 || atLeaf < 10 || forged-atLeaf < 10 || alone < 10 {
		t.Errorf("P19.4: %d forged bundles were taken, of %d of them an entry has the log's leaf, %d have one entry; %d have the log's entries", forged, atLeaf, alone, genuine)
	}
}

// collidesAlone: of a forged bundle of one entry merkle.CollidePath tells two, or the leaf is the log's and the entry is not.
func collidesAlone(t *testing.T, d [][]byte, p parts) {
	t.Helper()
	const w = 1
	place, n := int(p.places[0]), len(d)
	leaf := merkle.Leaf(w, p.entries[0])
	path := pathOf(place, n, p.hashes)
	if !merkle.CheckPath(w, leaf, place, n, path, merkle.Root(w, d)) {
		t.Fatalf("P4.8: a bundle of the one place %d of %d is taken, its path is not", place, n)
	}
	a, b, ok := merkle.CollidePath(w, d, place, leaf, path)
	if ok == bytes.Equal(leaf, merkle.Leaf(w, d[place])) {
		t.Fatalf("T3: CollidePath of the place %d of %d: %v", place, n, ok)
	}
	if ok && (bytes.Equal(a, b) || !bytes.Equal(sha.Sum(w, a), sha.Sum(w, b))) {
		t.Fatalf("T3: CollidePath tells %x and %x", a, b)
	}
}

// TestBundlesAndTheVerifier: T3: what a bundle of one event shows, a verifier that trusts its head takes, and the other way round.
func TestBundlesAndTheVerifier(t *testing.T) {
	for _, w := range []int{1, 2, 8} {
		y := of(t, w, 0, story())
		n := y.s.Len()
		g := y.head(n)
		none, _ := wire.PutProof(api.Proof{})
		v, _ := verifier.New(w, 0, y.keys.Public())
		if e := v.Head(putSigned(g), none); e != api.OK {
			t.Fatal(e)
		}
		r := rand.New(rand.NewSource(int64(w)))
		count := map[api.Errno]int{}
		for i := range 3000 {
			place := i % n
			p := y.parts(g, place)
			if i >= n {
				p = forge(r, p)
			}
			path, err := wire.PutProof(api.Proof{Hashes: pathOf(place, n, p.hashes)})
			if err != nil {
				t.Fatal(err)
			}
			e := y.check(t, p.bytes())
			if said := v.Entry(p.entries[0], place, path); said != e {
				t.Fatalf("T3: of the place %d Check says %d, a verifier %d", place, e, said)
			}
			count[e]++
		}
		if count[api.OK] < n || count[api.EPROOF] < 500 {
			t.Errorf("of width %d: %v", w, count)
		}
	}
}

// letter is a message under way.
type letter struct {
	from, to int
	m        api.Message
}

// chain is three nodes.
type chain []*node.Node

func newChain(t testing.TB, c api.Config) chain {
	t.Helper()
	var nodes chain
	for place := range 3 {
		d, _ := disk.New(c.Disk)
		n, e := node.Open(c, place, d)
		if e != api.OK {
			t.Fatal(e)
		}
		nodes = append(nodes, n)
	}
	return nodes
}

// do lets a client's request go through the chain.
func (c chain) do(r api.Request) {
	way := []letter{{node.Clients, node.Head, api.Message{Kind: api.MsgRequest, Request: r}}}
	for _, place := range []int{node.Head, node.Middle} {
		for _, out := range c[place].Tick() {
			way = append(way, letter{place, out.To, out.Message})
		}
	}
	for len(way) > 0 {
		x := way[0]
		way = way[1:]
		for _, out := range c[x.to].Take(x.from, x.m) {
			if out.To < node.Clients {
				way = append(way, letter{x.to, out.To, out.Message})
			}
		}
	}
}

// TestBundlesOfAChain: each node of a chain makes the same of the tail's head, and a stranger takes it.
func TestBundlesOfAChain(t *testing.T) {
	nodes := newChain(t, configOf(4, 3))
	tail := nodes[node.Tail]
	for i, r := range story() {
		r.Id.Client = 0
		nodes.do(r)
		if i%4 == 0 {
			g, e := tail.Head()
			if e != api.OK {
				t.Fatalf("T4: Head: %d", e)
			}
			nodes.makeAlike(t, g)
		}
	}
	if n := tail.Length(); n < 15 {
		t.Errorf("the tail has %d events", n)
	}
}

func (c chain) makeAlike(t *testing.T, g api.Signed) {
	t.Helper()
	public := keysOf(t, 4, 3).Public()
	for number := range uint32(4) {
		places, e := bundle.Record(c[node.Tail].Store, number, int(g.Head.Size))
		if e != api.OK {
			t.Fatal(e)
		}
		b, e := bundle.Make(c[node.Tail].Store, g, places)
		if s, l, f := bundle.Check(4, 3, public, b); e != api.OK || f != api.OK || !sameSigned(s, g) || len(l) != len(places) {
			t.Fatalf("P19.4: of the tail's %d events: %d, %d", g.Head.Size, e, f)
		}
		for place, n := range c {
			if other, e := bundle.Make(n.Store, g, places); e != api.OK || !bytes.Equal(other, b) {
				t.Errorf("T6: the node %d makes another bundle: %d", place, e)
			}
		}
	}
}
