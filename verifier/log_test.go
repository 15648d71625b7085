package verifier_test

import (
	"bytes"
	"fmt"
	"math/rand"
	"slices"
	"testing"

	"almoner/api"
	"almoner/disk"
	"almoner/merkle"
	"almoner/node"
	"almoner/sha"
	"almoner/verifier"
	"almoner/wire"
)

// sizeOf tells the size that sizes are held against: 0, if no head is trusted.
func sizeOf(v *verifier.Verifier) int {
	s, _ := v.Trusted()
	return int(s.Head.Size)
}

// TestHeadsOfOneLog: each by a key of its own, in any order, some of them more than once, with the log's proofs: OK or EOLD, no evidence, and the trusted sizes rise.
func TestHeadsOfOneLog(t *testing.T) {
	r := rand.New(rand.NewSource(166))
	for _, shape := range []struct{ w, height, logs int }{{1, 3, 300}, {2, 4, 200}, {4, 2, 200}, {32, 1, 30}} {
		y := of(t, shape.w, shape.height)
		for i := range shape.logs {
			l := logOf(shape.w, r.Intn(70), byte(i))
			v := y.verifier(t)
			sizes := make([]int, y.keys.Len()) // by the keys
			for key := range sizes {
				sizes[key] = r.Intn(len(l.entries) + 1)
			}
			for range 3 * len(sizes) {
				key := r.Intn(len(sizes))
				takesOfLog(t, y, v, l, key, sizes[key])
			}
			finds(t, "heads of one log", v)
		}
	}
}

// takesOfLog hands in a head of a log, with its proof.
func takesOfLog(t *testing.T, y system, v *verifier.Verifier, l log, key, n int) {
	t.Helper()
	size := sizeOf(v)
	was, isTrusted := v.Trusted()
	signed := y.signed(l, key, n)
	what := fmt.Sprintf("of width %d, a log's %d behind %d", y.w, n, size)
	switch {
	case n < size:
		refuses(t, "P16.6: "+what, v, signed, l.proof(n, size), api.EOLD)
	case n > size || !isTrusted:
		answers(t, "P16.6: "+what, v, signed, l.proof(size, n), api.OK)
		trusts(t, what, v, signed)
	default:
		answers(t, "P16.6: "+what, v, signed, none, api.OK)
		trusts(t, what, v, told(was))
	}
	if n = sizeOf(v); n > 0 {
		place := n / 2
		checks(t, what, v, l.entries[place], place, l.path(place, n), api.OK)
	}
}

// TestEachOrder: all orders of all heads of a small log.
func TestEachOrder(t *testing.T) {
	y := of(t, 2, 3)
	l := logOf(2, 4, 0)
	var choose func(order []int)
	choose = func(order []int) {
		if len(order) == 5 {
			v := y.verifier(t)
			for _, n := range order {
				takesOfLog(t, y, v, l, n, n)
			}
			finds(t, "each order", v)
			trusts(t, "each order", v, y.signed(l, 4, 4))
			return
		}
		for n := range 5 {
			if !slices.Contains(order, n) {
				choose(append(slices.Clone(order), n))
			}
		}
	}
	choose(nil)
}

// TestUnlikeLogs: two verifiers that were shown unlike logs of one size find out, when one is handed the other's head: whatever proof comes with it, and however far both have come since.
func TestUnlikeLogs(t *testing.T) {
	for _, w := range []int{2, 4, 32} {
		y := of(t, w, 3)
		l, other := logOf(w, 9, 0), logOf(w, 9, 1)
		for n := 1; n <= 9; n++ {
			for m := n; m <= 9; m++ {
				v, u := y.verifier(t), y.verifier(t)
				answers(t, "the one", v, y.signed(l, 0, n), none, api.OK)
				answers(t, "the other", u, y.signed(other, 1, n), none, api.OK)
				answers(t, "the one, grown", v, y.signed(l, 2, m), l.proof(n, m), api.OK)
				for _, p := range [][]byte{none, l.proof(n, m), other.proof(n, m)} {
					refusesFork(t, v, y.signed(other, 1, n), p)
				}
				refusesFork(t, u, y.signed(l, 0, n), none)
				finds(t, "the one", v, pieces(y.signed(l, 0, n), y.signed(other, 1, n)))
				finds(t, "the other", u, pieces(y.signed(other, 1, n), y.signed(l, 0, n)))
				for _, evidence := range append(v.Evidence(), u.Evidence()...) {
					judges(t, "unlike logs", y, evidence, api.OK)
				}
			}
		}
	}
}

// refusesFork asks for EFORK, and what is trusted unchanged.
func refusesFork(t *testing.T, v *verifier.Verifier, signed, proof []byte) {
	t.Helper()
	was, _ := v.Trusted()
	answers(t, "P16.6: unlike logs of one size", v, signed, proof, api.EFORK)
	trusts(t, "unlike logs of one size", v, told(was))
}

// TestForgedProofs is T3's: with a width of one byte a proof is soon found that leads from a root that no log has; then two texts with one hash come out.
func TestForgedProofs(t *testing.T) {
	y := of(t, 1, 1)
	r := rand.New(rand.NewSource(163))
	l := logOf(1, 4, 7)
	forged := 0
	for range 2000 {
		both, third, fourth := []byte{byte(r.Intn(256))}, []byte{byte(r.Intn(256))}, []byte{byte(r.Intn(256))}
		old := merkle.Node(1, both, third)
		hashes := [][]byte{third, fourth, both}
		want := api.EPROOF
		if bytes.Equal(merkle.Node(1, both, merkle.Node(1, third, fourth)), l.root(4)) {
			want = api.OK
		}
		v := y.verifier(t)
		answers(t, "of three", v, y.sign(0, 3, old), none, api.OK)
		answers(t, "of four", v, y.signed(l, 1, 4), proof(hashes...), want)
		u := y.verifier(t)
		answers(t, "of four", u, y.signed(l, 1, 4), none, api.OK)
		if want == api.OK {
			want = api.EOLD
		}
		answers(t, "of three", u, y.sign(0, 3, old), proof(hashes...), want)
		if want == api.EOLD && !bytes.Equal(old, l.root(3)) {
			a, b, ok := merkle.CollideProof(1, l.entries, 3, old, hashes)
			areTwoOfOneHash(t, a, b, ok)
			forged++
		}
	}
	if forged < 3 {
		t.Errorf("T3: %d forged proofs", forged)
	}
}

// TestForgedPaths is T3's of inclusion.
func TestForgedPaths(t *testing.T) {
	y := of(t, 1, 0)
	r := rand.New(rand.NewSource(164))
	l := logOf(1, 4, 7)
	v := y.verifier(t)
	answers(t, "of four", v, y.signed(l, 0, 4), none, api.OK)
	forged := 0
	for range 5000 {
		place, entry := r.Intn(4), []byte{byte(r.Intn(256)), byte(r.Intn(256))}
		hashes := [][]byte{{byte(r.Intn(256))}, {byte(r.Intn(256))}}
		leaf := merkle.Leaf(1, entry)
		if !merkle.CheckPath(1, leaf, place, 4, hashes, l.root(4)) {
			checks(t, "forged", v, entry, place, proof(hashes...), api.EPROOF)
			continue
		}
		checks(t, "forged", v, entry, place, proof(hashes...), api.OK)
		if !bytes.Equal(leaf, merkle.Leaf(1, l.entries[place])) {
			a, b, ok := merkle.CollidePath(1, l.entries, place, leaf, hashes)
			areTwoOfOneHash(t, a, b, ok)
			forged++
		}
	}
	if forged < 3 {
		t.Errorf("T3: %d forged paths", forged)
	}
}

func areTwoOfOneHash(t *testing.T, a, b []byte, ok bool) {
	t.Helper()
	if !ok || bytes.Equal(a, b) || !bytes.Equal(sha.Sum(1, a), sha.Sum(1, b)) {
		t.Errorf("T3: something forged is taken, and there are no two of one hash: %x, %x, %v", a, b, ok)
	}
}

// tail tells a tail of the chain with no events, and a head that makes some.
func tail(t *testing.T, c api.Config) (head, tail *node.Node) {
	t.Helper()
	var nodes []*node.Node
	for _, place := range []int{node.Head, node.Tail} {
		d, e := disk.New(c.Disk)
		if e != api.OK {
			t.Fatal(e)
		}
		n, e := node.Open(c, place, d)
		if e != api.OK {
			t.Fatal(e)
		}
		nodes = append(nodes, n)
	}
	return nodes[0], nodes[1]
}

// TestOfTheTail is T4's: what the chain's tail signs and proves is taken, as its log grows.
func TestOfTheTail(t *testing.T) {
	c := api.Config{Width: 8, Height: 3, Seed: []byte{1}, Segment: 8192, Disk: 65536,
		Staff: []api.Staff{{Actor: 1, Role: api.RoleClerk, Ward: 7}, {Actor: 6, Role: api.RolePatient}}}
	h, n := tail(t, c)
	y := of(t, c.Width, c.Height)
	v := y.verifier(t)
	for number := range uint32(15) {
		if number%2 == 0 {
			takesOfTail(t, v, n)
		}
		request := api.Request{Id: api.Id{Number: number}, Actor: 1, Op: api.OpCreate, Ward: 7, Owner: 6}
		h.Take(node.Clients, api.Message{Kind: api.MsgRequest, Request: request})
		event, e := h.Event(int(number))
		if e != api.OK {
			t.Fatal(e)
		}
		n.Take(node.Middle, api.Message{Kind: api.MsgGive, Event: event})
	}
	finds(t, "what the tail signs", v)
	if sizeOf(v) != 14 {
		t.Errorf("T4: the size %d is trusted", sizeOf(v))
	}
}

// takesOfTail hands in the tail's head and its proofs.
func takesOfTail(t *testing.T, v *verifier.Verifier, n *node.Node) {
	t.Helper()
	size := n.Length()
	s, e := n.Head()
	if e != api.OK {
		t.Fatal(e)
	}
	grown, e := n.Consistency(sizeOf(v), size)
	if e != api.OK {
		t.Fatal(e)
	}
	answers(t, "T4: the tail's head", v, told(s), proof(grown.Hashes...), api.OK)
	trusts(t, "T4: the tail's head", v, told(s))
	for place, event := range n.Events() {
		entry, err := wire.PutEvent(event)
		path, e := n.Inclusion(place, size)
		if err != nil || e != api.OK {
			t.Fatal(err, e)
		}
		checks(t, "T4: the tail's event", v, entry, place, proof(path.Hashes...), api.OK)
	}
}
