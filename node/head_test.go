package node_test

import (
	"bytes"
	"fmt"
	"math"
	"testing"

	"almoner/api"
	"almoner/lamport"
	"almoner/merkle"
	"almoner/node"
	"almoner/wire"
)

// entriesOf tells the bytes of events.
func entriesOf(t testing.TB, events []api.Event) [][]byte {
	t.Helper()
	var l [][]byte
	for _, ev := range events {
		b, err := wire.PutEvent(ev)
		if err != nil {
			t.Fatal(err)
		}
		l = append(l, b)
	}
	return l
}

// signs asks for the head of all events, signed by a key; a stranger must take it.
func signs(t testing.TB, why string, c api.Config, n *node.Node, key int) api.Signed {
	t.Helper()
	s, e := n.Head()
	root := merkle.Root(c.Width, entriesOf(t, n.Events()))
	if e != api.OK || int64(s.Key) != int64(key) || int64(s.Head.Size) != int64(n.Length()) || !bytes.Equal(s.Head.Root, root) {
		t.Fatalf("P15.5: %s: Head: %v by the key %d, %d, want size %d, root %x by the key %d", why, s.Head, s.Key, e, n.Length(), root, key)
	}
	keys, _ := lamport.New(c.Width, c.Height, c.Seed)
	message, err := wire.PutHead(s.Head)
	if err != nil || !lamport.Check(c.Width, c.Height, keys.Public(), key, message, s.Signature) {
		t.Fatalf("T4: %s: the signature is not taken: %v", why, err)
	}
	return s
}

// refusesHead asks for an error, zeros beside it, and no key less.
func refusesHead(t testing.TB, why string, n *node.Node, want api.Errno) {
	t.Helper()
	was := n.Keys()
	if s, e := n.Head(); fmt.Sprint(s) != fmt.Sprint(api.Signed{}) || e != want {
		t.Errorf("P15.5: %s: Head: %v, %d, want zeros and %d", why, s, e, want)
	}
	if n.Keys() != was {
		t.Errorf("P15.5: %s: %d keys were left, and %d are", why, was, n.Keys())
	}
}

// TestHeads: of each length, until no key is left.
func TestHeads(t *testing.T) {
	for _, c := range []api.Config{sized(1, 2), sized(2, 2), sized(32, 2)} {
		n, _ := fresh(t, c, node.Tail)
		events := eventsOf(t, c, story()...)
		if n.Keys() != 4 {
			t.Errorf("P15.5: Keys: %d", n.Keys())
		}
		for i := range 4 {
			first := signs(t, "new", c, n, i)
			again := signs(t, "again", c, n, i)
			if fmt.Sprint(first) != fmt.Sprint(again) {
				t.Error("T4: two heads of one size")
			}
			if n.Keys() != 3-i {
				t.Errorf("P15.5: Keys behind %d heads: %d", i+1, n.Keys())
			}
			for range i + 1 {
				n.Take(node.Middle, give(events[n.Length()]))
			}
		}
		refusesHead(t, "no key left", n, api.EKEYS)
		n.Take(node.Middle, give(events[n.Length()]))
		refusesHead(t, "no key left", n, api.EKEYS)
	}
}

// TestHeadsWhenNoKeyIsLeft: what is bound is signed still.
func TestHeadsWhenNoKeyIsLeft(t *testing.T) {
	c := sized(2, 0)
	n, d := standing(t, c, node.Tail, many(2)...)
	s := signs(t, "the last key", c, n, 0)
	if n.Keys() != 0 {
		t.Errorf("P15.5: Keys: %d", n.Keys())
	}
	signs(t, "again", c, n, 0)
	d.Crash(0)
	d.Start()
	if again := signs(t, "opened again", c, opened(t, c, node.Tail, d), 0); fmt.Sprint(again) != fmt.Sprint(s) {
		t.Error("T4: two heads of one size")
	}
}

// TestHeadsOfOthers: a node that is not the tail has none, nor proofs, nor keys, whatever its disk is.
func TestHeadsOfOthers(t *testing.T) {
	c := small()
	for _, place := range []int{node.Head, node.Middle} {
		n, d := standing(t, c, place, many(3)...)
		for _, off := range []bool{false, true} {
			if off {
				d.Crash(0)
			}
			refusesHead(t, "not the tail", n, api.ENONE)
			for _, a := range anyNumbers {
				for _, b := range anyNumbers {
					refusesProofs(t, "not the tail", n, a, b, api.ENONE, api.ENONE)
				}
			}
			if n.Keys() != 0 {
				t.Errorf("P15.5: Keys at %d: %d", place, n.Keys())
			}
		}
	}
}

// TestHeadsOff: also of a head that is bound.
func TestHeadsOff(t *testing.T) {
	c := small()
	n, d := standing(t, c, node.Tail, many(2)...)
	signs(t, "on", c, n, 0)
	d.Crash(0)
	refusesHead(t, "off, the head is bound", n, api.EOFF)
	d.Start()
	n = opened(t, c, node.Tail, d)
	n.Take(node.Middle, give(eventsOf(t, c, many(3)...)[2]))
	d.Crash(0)
	refusesHead(t, "off, the head is new", n, api.EOFF)
	d.Start()
	signs(t, "on again", c, opened(t, c, node.Tail, d), 1)
}

// TestHeadsRefused by the keyring: its errors are the answer.
func TestHeadsRefused(t *testing.T) {
	c := small()
	n, d := standing(t, c, node.Tail, many(2)...)
	d.Fill(true)
	refusesHead(t, "full", n, api.EFULL)
	d.Fill(false)
	signs(t, "room again", c, n, 0)

	_, d = standing(t, c, node.Middle, many(2)...)
	bind(t, c, d, 2)
	refusesHead(t, "another root is bound", opened(t, c, node.Tail, d), api.EFORK)
	_, d = standing(t, c, node.Middle, many(2)...)
	bind(t, c, d, 3)
	refusesHead(t, "a greater head is bound", opened(t, c, node.Tail, d), api.EOLD)
}

// TestHeadsTorn: the disk goes off as a key is bound; opened again no key has signed two heads.
func TestHeadsTorn(t *testing.T) {
	c := sized(2, 2)
	events := eventsOf(t, c, many(3)...)
	for written := range 30 {
		n, d := standing(t, c, node.Tail, many(2)...)
		d.Arm(1, written)
		refusesHead(t, "torn", n, api.EOFF)
		refusesHead(t, "torn, and off", n, api.EOFF)
		isSilent(t, "torn in Head", n, d, allMessages(events, creates(0, 3)))
		d.Crash(1000)
		d.Start()
		n = opened(t, c, node.Tail, d)
		isBound := 4 - n.Keys()
		signs(t, "opened again", c, n, 0)
		n.Take(node.Middle, give(events[2]))
		signs(t, "one event more", c, n, 1)
		if isBound != 0 && isBound != 1 {
			t.Errorf("P15.5: torn behind %d bytes: %d keys are bound", written, isBound)
		}
	}
}

// anyNumbers are such as may be a place or a size, and such as may not.
var anyNumbers = []int{math.MinInt, -2, -1, 0, 1, 2, 3, 4, 5, 1 << 32, 1<<32 + 1, math.MaxInt}

func refusesProofs(t testing.TB, why string, n *node.Node, a, size int, inclusion, consistency api.Errno) {
	t.Helper()
	if p, e := n.Inclusion(a, size); e != inclusion || len(p.Hashes) != 0 {
		t.Errorf("P15.5: %s: Inclusion(%d, %d): %x, %d, want none, %d", why, a, size, p, e, inclusion)
	}
	if p, e := n.Consistency(a, size); e != consistency || len(p.Hashes) != 0 {
		t.Errorf("P15.5: %s: Consistency(%d, %d): %x, %d, want none, %d", why, a, size, p, e, consistency)
	}
}

// TestProofsOutOfRange: with all that may not be.
func TestProofsOutOfRange(t *testing.T) {
	n, _ := standing(t, small(), node.Tail, many(3)...)
	for _, size := range anyNumbers {
		for _, a := range anyNumbers {
			if size < 0 || size > 3 || a < 0 || a > size {
				refusesProofs(t, "out of range", n, a, size, api.EARG, api.EARG)
			}
		}
	}
	for size := range 4 {
		refusesProofs(t, "at the size", n, size, size, api.EARG, api.OK)
	}
}

// TestProofs: all of them, on and off, are merkle's, and taken.
func TestProofs(t *testing.T) {
	for _, c := range []api.Config{sized(1, 0), sized(32, 0)} {
		n, d := standing(t, c, node.Tail, append(story(), creates(7, 1), creates(7, 2))...)
		entries := entriesOf(t, n.Events())
		for range 2 {
			for size := range len(entries) + 1 {
				for a := range size + 1 {
					proves(t, c, n, entries[:size], a)
				}
			}
			d.Crash(0)
		}
	}
}

func proves(t *testing.T, c api.Config, n *node.Node, entries [][]byte, a int) {
	t.Helper()
	size := len(entries)
	root := merkle.Root(c.Width, entries)
	if a < size {
		want, _ := merkle.Path(c.Width, entries, a)
		p, e := n.Inclusion(a, size)
		if e != api.OK || fmt.Sprint(p.Hashes) != fmt.Sprint(want) {
			t.Fatalf("P15.5: Inclusion(%d, %d): %x, %d, want %x", a, size, p, e, want)
		}
		if !merkle.CheckPath(c.Width, merkle.Leaf(c.Width, entries[a]), a, size, p.Hashes, root) {
			t.Fatalf("T4: Inclusion(%d, %d) is not taken", a, size)
		}
	}
	want, _ := merkle.Proof(c.Width, entries, a)
	p, e := n.Consistency(a, size)
	if e != api.OK || fmt.Sprint(p.Hashes) != fmt.Sprint(want) {
		t.Fatalf("P15.5: Consistency(%d, %d): %x, %d, want %x", a, size, p, e, want)
	}
	if !merkle.CheckProof(c.Width, a, size, merkle.Root(c.Width, entries[:a]), root, p.Hashes) {
		t.Fatalf("T4: Consistency(%d, %d) is not taken", a, size)
	}
}
