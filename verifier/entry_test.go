package verifier_test

import (
	"bytes"
	"fmt"
	"math"
	"slices"
	"testing"

	"almoner/api"
	"almoner/merkle"
	"almoner/verifier"
)

// checks asks for what Entry answers; nothing changes by it.
func checks(t testing.TB, what string, v *verifier.Verifier, entry []byte, place int, path []byte, want api.Errno) {
	t.Helper()
	was := view(v)
	if e := v.Entry(entry, place, path); e != want {
		t.Fatalf("P16.4: %s: Entry at %d: %d, want %d", what, place, e, want)
	}
	if view(v) != was {
		t.Fatalf("P16.4: %s: Entry changes something", what)
	}
}

// TestEntry goes through all places of logs of all small sizes.
func TestEntry(t *testing.T) {
	y := of(t, 4, 0)
	for n := range 20 {
		l := logOf(4, n+1, 0)
		v := y.verifier(t)
		signed := y.signed(l, 0, n)
		answers(t, "the first", v, signed, none, api.OK)
		for i := range n {
			what := fmt.Sprintf("the entry %d of %d", i, n)
			checks(t, what, v, l.entries[i], i, l.path(i, n), api.OK)
			for how, path := range wrongProofs(4, l.hashesTo(i, n)) {
				checks(t, what+", "+how, v, l.entries[i], i, path, api.EPROOF)
			}
			for j := range n {
				if j == i {
					continue
				}
				checks(t, what+", at another place", v, l.entries[i], j, l.path(j, n), api.EPROOF)
				checks(t, what+", another path", v, l.entries[i], i, l.path(j, n), api.EPROOF)
				checks(t, what+", another place, its own path", v, l.entries[i], j, l.path(i, n), api.EPROOF)
			}
			for bit := range 8 * len(l.entries[i]) {
				checks(t, what+", another bit", v, turned(l.entries[i], bit), i, l.path(i, n), api.EPROOF)
			}
			checks(t, what+", its leaf in its place", v, merkle.Leaf(4, l.entries[i]), i, l.path(i, n), api.EPROOF)
			checks(t, what+", cut", v, l.entries[i][:2], i, l.path(i, n), api.EPROOF)
			checks(t, what+", longer", v, append(slices.Clone(l.entries[i]), 0), i, l.path(i, n), api.EPROOF)
			if path := l.path(i, n+1); !bytes.Equal(path, l.path(i, n)) {
				checks(t, what+", a greater log's path", v, l.entries[i], i, path, api.EPROOF)
			}
		}
		for _, place := range []int{n, n + 1, n + 1<<32, -1, -n - 1, math.MinInt, math.MinInt32, math.MaxInt32, 1 << 32, math.MaxInt} {
			for _, path := range [][]byte{none, l.path(n, n+1), proof([]byte{1})} {
				checks(t, "no place", v, l.entries[n], place, path, api.EARG)
			}
		}
		trusts(t, "behind all of these", v, signed)
	}
}

// TestEntryOrder: EFORM comes ahead of ENONE, that ahead of EARG, that ahead of EPROOF.
func TestEntryOrder(t *testing.T) {
	y := of(t, 4, 1)
	l := logOf(4, 3, 0)
	v := y.verifier(t)
	numbers := []int{math.MinInt, -1, 0, 1, 2, 3, 4, 1 << 32, math.MaxInt}
	eachFault := func(what string) {
		t.Helper()
		for how, path := range formlessProofs(t, y.signed(l, 0, 3)) {
			for _, place := range numbers {
				checks(t, what+", a path that is none: "+how, v, l.entries[0], place, path, api.EFORM)
			}
		}
	}
	eachFault("nothing trusted")
	for _, place := range numbers {
		checks(t, "nothing trusted", v, l.entries[0], place, none, api.ENONE)
		checks(t, "nothing trusted", v, l.entries[0], place, l.path(0, 3), api.ENONE)
	}
	answers(t, "not trusted", v, y.signed(l, 0, 3), proof(y.root(1)), api.EPROOF)
	checks(t, "seen, not trusted", v, l.entries[0], 0, l.path(0, 3), api.ENONE)
	answers(t, "trusted", v, y.signed(l, 0, 3), none, api.OK)
	eachFault("trusted")
	checks(t, "trusted", v, l.entries[0], 0, l.path(0, 3), api.OK)
	checks(t, "trusted", v, l.entries[0], 3, l.path(0, 3), api.EARG)
	checks(t, "trusted", v, l.entries[0], 2, l.path(0, 3), api.EPROOF)
}

// TestEntryOfSizeNought: with that head trusted there is no place, but a head.
func TestEntryOfSizeNought(t *testing.T) {
	y := of(t, 4, 0)
	v := y.verifier(t)
	answers(t, "size 0", v, y.signed(logOf(4, 0, 0), 0, 0), none, api.OK)
	for _, place := range []int{math.MinInt, -1, 0, 1, math.MaxInt} {
		checks(t, "size 0", v, nil, place, none, api.EARG)
		checks(t, "size 0", v, nil, place, nil, api.EFORM)
	}
}

// TestEntryOfTheTrustedHead: paths lead to the head that is trusted, not to those that were refused or are past.
func TestEntryOfTheTrustedHead(t *testing.T) {
	y := of(t, 4, 2)
	l, other := logOf(4, 9, 0), logOf(4, 9, 1)
	v := y.verifier(t)
	answers(t, "3", v, y.signed(l, 0, 3), none, api.OK)
	checks(t, "of 3", v, l.entries[2], 2, l.path(2, 3), api.OK)
	answers(t, "7", v, y.signed(l, 1, 7), l.proof(3, 7), api.OK)
	answers(t, "3 again", v, y.signed(l, 0, 3), l.proof(3, 7), api.EOLD)
	answers(t, "another log's 9", v, y.signed(other, 2, 9), other.proof(7, 9), api.EPROOF)
	answers(t, "another log's 7", v, y.signed(other, 3, 7), none, api.EFORK)
	checks(t, "of 3", v, l.entries[2], 2, l.path(2, 3), api.EPROOF)
	checks(t, "of 7", v, l.entries[2], 2, l.path(2, 7), api.OK)
	checks(t, "of 7", v, l.entries[6], 6, l.path(6, 7), api.OK)
	checks(t, "of 9", v, l.entries[7], 7, l.path(7, 9), api.EARG)
	checks(t, "of another log", v, other.entries[2], 2, other.path(2, 7), api.EPROOF)
}

// TestEntryOfGreatSizes: as far as a path of one hash leads.
func TestEntryOfGreatSizes(t *testing.T) {
	const half = 1 << 31
	y := of(t, 32, 0)
	left, entry := y.root(5), []byte("entry")
	v := y.verifier(t)
	answers(t, "2^31 + 1", v, y.sign(0, half+1, merkle.Node(32, left, merkle.Leaf(32, entry))), none, api.OK)
	checks(t, "the last one", v, entry, half, proof(left), api.OK)
	checks(t, "without its hash", v, entry, half, none, api.EPROOF)
	checks(t, "the one ahead of it", v, entry, half-1, proof(left), api.EPROOF)
	for _, place := range []int{half + 1, half + 2, 1 << 32, 1<<32 + half, math.MaxInt, -1, -half, math.MinInt} {
		checks(t, "no place", v, entry, place, proof(left), api.EARG)
	}
	v = y.verifier(t)
	answers(t, "2^32 - 1", v, y.sign(0, math.MaxUint32, y.root(1)), none, api.OK)
	for _, place := range []int{0, half, math.MaxUint32 - 1} {
		for n := range 40 {
			checks(t, "any hashes", v, entry, place, proof(slices.Repeat([][]byte{left}, n)...), api.EPROOF)
		}
	}
	checks(t, "no place", v, entry, math.MaxUint32, none, api.EARG)
}

// TestLongEntries: an entry may be of any length.
func TestLongEntries(t *testing.T) {
	y := of(t, 32, 0)
	l := log{w: 32}
	for _, n := range []int{0, 1, 63, 64, 65, 1000, 1 << 16} {
		l.entries = append(l.entries, bytes.Repeat([]byte{byte(n)}, n))
	}
	n := len(l.entries)
	v := y.verifier(t)
	answers(t, "long entries", v, y.signed(l, 0, n), none, api.OK)
	for i, entry := range l.entries {
		checks(t, "a long entry", v, entry, i, l.path(i, n), api.OK)
		checks(t, "a byte more", v, append(bytes.Clone(entry), 0), i, l.path(i, n), api.EPROOF)
	}
}
