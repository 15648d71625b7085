package merkle_test

import (
	"bytes"
	"slices"
	"testing"

	"almoner/merkle"
)

// roomy tells a copy of b, behind which spare room lies that is filled with a byte.
func roomy(b []byte) []byte {
	l := bytes.Repeat([]byte{0xee}, len(b)+40)
	copy(l, b)
	return l[:len(b)]
}

// roomyList tells a list of such copies, with spare room of its own that is filled with nil.
func roomyList(l [][]byte) [][]byte {
	r := make([][]byte, len(l), len(l)+8)
	for i := range l {
		r[i] = roomy(l[i])
	}
	return r
}

// roomyPlaces tells a copy, behind which spare room lies that is filled with a number.
func roomyPlaces(places []int) []int {
	l := make([]int, len(places)+8)
	for i := range l {
		l[i] = 77
	}
	copy(l, places)
	return l[:len(places)]
}

// unchanged tells whether a roomy copy is as it was, spare room too.
func unchanged(now, was []byte) bool {
	return bytes.Equal(now[:cap(now)][:len(was)+40], roomy(was)[:len(was)+40])
}

func unchangedList(now, was [][]byte) bool {
	for i := range was {
		if !unchanged(now[i], was[i]) {
			return false
		}
	}
	return len(now) == len(was) && !slices.ContainsFunc(now[:cap(now)][len(was):], func(b []byte) bool { return b != nil })
}

func unchangedPlaces(now, was []int) bool {
	return slices.Equal(now[:cap(now)], roomyPlaces(was)[:len(was)+8])
}

// TestWhatIsHandedInIsNotChanged calls all with lists that have spare room.
func TestWhatIsHandedInIsNotChanged(t *testing.T) {
	const w, n, i, m = 1, 7, 2, 5
	d, places := entriesOf(n), []int{0, 3, 4}
	root, leaf, old := merkle.Root(w, d), merkle.Leaf(w, d[i]), merkle.Root(w, d[:m])
	path, _ := merkle.Path(w, d, i)
	proof, _ := merkle.Proof(w, d, m)
	many, _ := merkle.Many(w, d, places)
	leaves := leavesAt(w, d, places)

	d2, places2, root2, leaf2, old2 := roomyList(d), roomyPlaces(places), roomy(root), roomy(leaf), roomy(old)
	path2, proof2, many2, leaves2 := roomyList(path), roomyList(proof), roomyList(many), roomyList(leaves)
	merkle.Leaf(w, d2[i])
	merkle.Node(w, leaf2, root2)
	merkle.Root(w, d2)
	merkle.Path(w, d2, i)
	merkle.Proof(w, d2, m)
	merkle.Many(w, d2, places2)
	merkle.Many(w, d2, nil)
	if !merkle.CheckPath(w, leaf2, i, n, path2, root2) || !merkle.CheckProof(w, m, n, old2, root2, proof2) || !merkle.CheckMany(w, leaves2, places2, n, many2, root2) {
		t.Errorf("P4.8: what is told is not taken")
	}
	merkle.CollidePath(w, d2, i, leaf2, path2)
	merkle.CollideProof(w, d2, m, old2, proof2)
	tr := treeOf(w, d2)
	tr.Many(places2, n)
	if !unchangedList(d2, d) || !unchangedPlaces(places2, places) || !unchanged(root2, root) || !unchanged(leaf2, leaf) || !unchanged(old2, old) {
		t.Errorf("P4.9: entries, places or hashes were changed")
	}
	if !unchangedList(path2, path) || !unchangedList(proof2, proof) || !unchangedList(many2, many) || !unchangedList(leaves2, leaves) {
		t.Errorf("P4.9: a path, a proof, hashes or leaves were changed")
	}
}

// TestForgedListsAreNotChanged: likewise where two are told, so that all of the way down is gone.
func TestForgedListsAreNotChanged(t *testing.T) {
	const w, n = 1, 8
	d := entriesOf(n)
	root := merkle.Root(w, d)
	right, _ := merkle.Path(w, d, 3)
	proof, _ := merkle.Proof(w, d, 4)
	found := 0
	for x := range 1 << 16 {
		leaf, path := []byte{byte(x >> 8)}, slices.Clone(right)
		path[0] = []byte{byte(x)}
		if merkle.CheckPath(w, leaf, 3, n, path, root) {
			leaf2, path2, d2 := roomy(leaf), roomyList(path), roomyList(d)
			a, b, ok := merkle.CollidePath(w, d2, 3, leaf2, path2)
			scribble(a, b)
			if !unchanged(leaf2, leaf) || !unchangedList(path2, path) || !unchangedList(d2, d) {
				t.Fatalf("P4.9: what CollidePath is handed was changed")
			}
			if ok {
				found++
			}
		}
		old, forged := []byte{byte(x >> 8)}, slices.Clone(proof)
		forged[0] = []byte{byte(x)}
		if merkle.CheckProof(w, 4, n, old, root, forged) {
			old2, proof2, d2 := roomy(old), roomyList(forged), roomyList(d)
			a, b, ok := merkle.CollideProof(w, d2, 4, old2, proof2)
			scribble(a, b)
			if !unchanged(old2, old) || !unchangedList(proof2, forged) || !unchangedList(d2, d) {
				t.Fatalf("P4.9: what CollideProof is handed was changed")
			}
			if ok {
				found++
			}
		}
	}
	if found == 0 {
		t.Errorf("P4.7: no two were found")
	}
}

// scribble turns all bytes, spare room too.
func scribble(lists ...[]byte) {
	for _, l := range lists {
		l = l[:cap(l)]
		for i := range l {
			l[i] ^= 0xff
		}
	}
}

// TestWhatIsToldIsNew changes all that a tree has told, and all that was handed to it.
func TestWhatIsToldIsNew(t *testing.T) {
	const w = 16
	d := entriesOf(21)
	tr := merkle.New(w)
	for i := range d {
		entry := roomy(d[i])
		tr.Add(entry)
		scribble(entry)
		for n := range i + 2 {
			root, _ := tr.Root(n)
			scribble(root)
			path, _ := tr.Path(n/2, n)
			scribbleList(t, path)
			proof, _ := tr.Proof(n/2, n)
			scribbleList(t, proof)
			none, _ := tr.Many(nil, n)
			scribbleList(t, none)
			places := []int{n / 2}
			many, _ := tr.Many(places, n)
			places[0] = -1
			scribbleList(t, many)
		}
		scribbleList(t, tr.Peaks())
	}
	lookPeaks(t, tr, w, d)
	for n := range 22 {
		look(t, tr, w, d, n)
	}
}

// scribbleList turns the hashes of a list one by one, spare room too, and looks that none of the others is changed by it; then it fills the list and its spare room.
func scribbleList(t *testing.T, l [][]byte) {
	t.Helper()
	for i := range l {
		was := copied(l)
		scribble(l[i])
		for j := range l {
			if j != i && !bytes.Equal(l[j], was[j]) {
				t.Errorf("R4: two hashes of one answer share memory")
			}
		}
	}
	l = l[:cap(l)]
	for i := range l {
		l[i] = []byte("other")
	}
}

// TestListsAreNew: what the calls over entries tell shares nothing with the entries, nor with what another call has told.
func TestListsAreNew(t *testing.T) {
	const w = 16
	d := entriesOf(11)
	was := copied(d)
	for i := range d {
		path, _ := merkle.Path(w, d, i)
		scribbleList(t, path)
		proof, _ := merkle.Proof(w, d, i)
		scribbleList(t, proof)
		many, _ := merkle.Many(w, d, []int{i})
		scribbleList(t, many)
		scribble(merkle.Leaf(w, d[i]), merkle.Node(w, d[i], d[i]), merkle.Root(w, d[:i]))
		if !same(d, was) {
			t.Fatalf("P4.9: the entries were changed")
		}
		again, _ := merkle.Path(w, d, i)
		if !same(again, pathWord(w, d, i)) {
			t.Errorf("R5: the path of %d, asked again: %x", i, again)
		}
	}
}

// TestTwoCollidingAreNew: the two that are told share nothing with one another.
func TestTwoCollidingAreNew(t *testing.T) {
	d := entriesOf(2)
	for x := range 1 << 16 {
		leaf, path := []byte{byte(x >> 8)}, [][]byte{{byte(x)}}
		a, b, ok := merkle.CollidePath(1, d, 0, leaf, path)
		if !ok {
			continue
		}
		was := bytes.Clone(b)
		scribble(a)
		if !bytes.Equal(b, was) || leaf[0] != byte(x>>8) || path[0][0] != byte(x) {
			t.Fatalf("R4: what is told shares memory")
		}
		return
	}
	t.Errorf("P4.7: no two were found")
}
