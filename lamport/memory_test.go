package lamport_test

import (
	"bytes"
	"testing"

	"almoner/api"
	"almoner/lamport"
)

const spare = 70

// roomy tells a copy of b, behind which spare room lies that is filled with a byte.
func roomy(b []byte) []byte {
	l := bytes.Repeat([]byte{0xee}, len(b)+spare)
	copy(l, b)
	return l[:len(b)]
}

// unchanged tells whether a roomy copy is as it was, spare room too.
func unchanged(now, was []byte) bool {
	return bytes.Equal(now[:len(was)+spare], roomy(was)[:len(was)+spare])
}

// scribble turns all bytes, spare room too.
func scribble(lists ...[]byte) {
	for _, l := range lists {
		l = l[:cap(l)]
		for i := range l {
			l[i] ^= 0xff
		}
	}
}

// TestWhatIsHandedInIsNotChanged calls all with lists that have spare room.
func TestWhatIsHandedInIsNotChanged(t *testing.T) {
	for _, w := range []int{1, 4, 32} {
		const height, key = 1, 1
		seed, message := []byte{1, 2, 3}, []byte("abc")
		seed2, message2 := roomy(seed), roomy(message)
		lamport.Secret(w, seed2, key, 7, 1)
		k := made(t, w, height, seed2)
		s := signed(t, k, key, message2)
		public := k.Public()
		s2, public2 := roomy(s), roomy(public)
		if !lamport.Check(w, height, public2, key, message2, s2) {
			t.Errorf("P5.4: what Sign told is not taken")
		}
		lamport.Check(w, height, public2, 0, message2, s2)
		lamport.Check(w, height, public2, key, seed2, s2)
		lamport.Check(w, height+1, public2, key, message2, s2[:len(s2)+w])
		k.Sign(-1, message2)
		lamport.New(w, 7, seed2)
		lamport.Secret(w, seed2, key, 7, 2)
		if !unchanged(seed2, seed) || !unchanged(message2, message) || !unchanged(s2, s) || !unchanged(public2, public) {
			t.Errorf("P5.5: width %d: a seed, a message, a signature or a public hash was changed", w)
		}
	}
}

// TestWhatIsHandedInIsNotKept changes it all afterwards.
func TestWhatIsHandedInIsNotKept(t *testing.T) {
	const w, height = 4, 2
	seed := roomy([]byte{1, 2, 3})
	k := made(t, w, height, seed)
	scribble(seed)
	right := []byte{1, 2, 3}
	levels := levelsWord(w, height, right)
	for key := range k.Len() {
		message := roomy([]byte("abc"))
		s := signed(t, k, key, message)
		scribble(message)
		if !bytes.Equal(s, signWord(w, right, levels, key, []byte("abc"))) {
			t.Errorf("P5.5: the signature by %d hangs on what became of the seed or the message", key)
		}
		was := bytes.Clone(s)
		public := k.Public()
		lamport.Check(w, height, public, key, []byte("abc"), s)
		scribble(s, public)
		if again := signed(t, k, key, []byte("abc")); !bytes.Equal(again, was) || !lamport.Check(w, height, k.Public(), key, []byte("abc"), was) {
			t.Errorf("P5.5: a signature that Check was handed is kept")
		}
	}
	if !bytes.Equal(k.Public(), publicWord(levels)) {
		t.Errorf("P5.5: Public hangs on what became of the seed")
	}
}

// TestWhatIsToldIsNew changes all that keys have told.
func TestWhatIsToldIsNew(t *testing.T) {
	for height := range 4 {
		const w = 4
		seed := []byte{1, 2, 3}
		k, levels := made(t, w, height, seed), levelsWord(w, height, seed)
		for key := range k.Len() {
			l, _ := k.Leaf(key)
			scribble(k.Public(), l, signed(t, k, key, []byte("abc")), lamport.Secret(w, seed, key, 0, 0))
		}
		if !bytes.Equal(k.Public(), publicWord(levels)) {
			t.Errorf("P5.5: height %d: Public was changed by what it told", height)
		}
		for key := range k.Len() {
			if l, errno := k.Leaf(key); errno != api.OK || !bytes.Equal(l, levels[0][key]) {
				t.Errorf("P5.5: height %d: Leaf(%d) was changed by what it told", height, key)
			}
			if s := signed(t, k, key, []byte("abc")); !bytes.Equal(s, signWord(w, seed, levels, key, []byte("abc"))) {
				t.Errorf("P5.5: height %d: Sign(%d) was changed by what it told", height, key)
			}
		}
		if !bytes.Equal(seed, []byte{1, 2, 3}) {
			t.Errorf("P5.5: height %d: what is told shares memory with the seed", height)
		}
	}
}

// TestTwoToldShareNothing changes one of two answers of one call.
func TestTwoToldShareNothing(t *testing.T) {
	k, seed := made(t, 4, 1, nil), []byte{1}
	leaf := func() []byte { l, _ := k.Leaf(1); return l }
	for what, tell := range map[string]func() []byte{
		"Public": k.Public,
		"Leaf":   leaf,
		"Sign":   func() []byte { return signed(t, k, 1, nil) },
		"Secret": func() []byte { return lamport.Secret(4, seed, 1, 1, 1) },
	} {
		one, two := tell(), tell()
		was := bytes.Clone(two)
		scribble(one)
		if !bytes.Equal(two, was) {
			t.Errorf("R4: two answers of %s share memory", what)
		}
	}
}

// TestNilAndEmptyAreOne: R4.
func TestNilAndEmptyAreOne(t *testing.T) {
	a, b := made(t, 4, 1, nil), made(t, 4, 1, []byte{})
	if !bytes.Equal(a.Public(), b.Public()) || !bytes.Equal(signed(t, a, 1, nil), signed(t, b, 1, []byte{})) {
		t.Errorf("R4: an empty seed or message is another than none")
	}
	if !bytes.Equal(lamport.Secret(4, nil, 1, 1, 1), lamport.Secret(4, []byte{}, 1, 1, 1)) {
		t.Errorf("R4: Secret of an empty seed is another than of none")
	}
	if !lamport.Check(4, 1, a.Public(), 1, []byte{}, signed(t, a, 1, nil)) || !lamport.Check(4, 1, a.Public(), 1, nil, signed(t, b, 1, []byte{})) {
		t.Errorf("R4: Check of an empty message is another than of none")
	}
}
