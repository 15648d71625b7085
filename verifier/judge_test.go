package verifier_test

import (
	"bytes"
	"encoding/binary"
	"fmt"
	"math"
	"slices"
	"testing"

	"almoner/api"
	"almoner/verifier"
)

// judges asks for what Judge answers.
func judges(t testing.TB, what string, y system, evidence []byte, want api.Errno) {
	t.Helper()
	if e := verifier.Judge(y.w, y.height, y.public(), evidence); e != want {
		t.Fatalf("P16.5: Judge of %s: %d, want %d", what, e, want)
	}
}

// TestJudgeClashes: two heads that clash, either one first, by the key, by the size, by both.
func TestJudgeClashes(t *testing.T) {
	for _, w := range []int{1, 2, 4, 32} {
		y := of(t, w, 1)
		first := y.of(0, 5, 9)
		for what, second := range map[string][]byte{
			"one key, another size":          y.of(0, 6, 9),
			"one key, another root":          y.of(0, 5, 8),
			"one key, another bit":           y.sign(0, 5, turned(y.root(9), 8*w-1)),
			"one key, another size and root": y.of(0, 0, 8),
			"one size, another root":         y.of(1, 5, 8),
			"one size, another bit":          y.sign(1, 5, turned(y.root(9), 0)),
		} {
			judges(t, what, y, pieces(first, second), api.OK)
			judges(t, what+", changed about", y, pieces(second, first), api.OK)
		}
		for what, second := range map[string][]byte{
			"one head twice":               first,
			"one head by two keys":         y.of(1, 5, 9),
			"two sizes, two keys":          y.of(1, 6, 9),
			"two sizes, roots, keys":       y.of(1, 0, 8),
			"two great sizes, roots, keys": y.of(1, math.MaxUint32, 8),
		} {
			judges(t, what, y, pieces(first, second), api.EPROOF)
			judges(t, what+", changed about", y, pieces(second, first), api.EPROOF)
		}
	}
}

// TestJudgeHolds: if either head does not hold it is ESIG, be there a clash or not.
func TestJudgeHolds(t *testing.T) {
	y := of(t, 4, 2)
	good := y.of(0, 1, 9)
	for what, bad := range unheld(t, y) {
		for _, other := range [][]byte{good, y.of(1, 1, 8), y.of(3, 7, 7), bad} {
			judges(t, what, y, pieces(bad, other), api.ESIG)
			judges(t, what+", behind", y, pieces(other, bad), api.ESIG)
		}
	}
}

// TestJudgeForm: bytes that are not two byte strings told as said, each those of a signed head.
func TestJudgeForm(t *testing.T) {
	y := of(t, 4, 1)
	a, b := y.of(0, 1, 9), y.of(1, 1, 8)
	good := pieces(a, b)
	judges(t, "it", y, good, api.OK)
	for n := range good {
		judges(t, fmt.Sprintf("its first %d bytes", n), y, good[:n], api.EFORM)
		judges(t, fmt.Sprintf("all behind its first %d bytes", n+1), y, good[n+1:], api.EFORM)
	}
	for what, c := range map[string][]byte{
		"a byte more":        append(bytes.Clone(good), 0),
		"an empty one more":  pieces(a, b, nil),
		"three":              pieces(a, b, a),
		"four":               pieces(a, b, a, b),
		"one":                pieces(a),
		"two empty ones":     pieces(nil, nil),
		"one and an empty":   pieces(a, nil),
		"an empty and one":   pieces(nil, a),
		"without lengths":    slices.Concat(a, b),
		"a byte ahead":       append([]byte{0}, good...),
		"one in another":     pieces(good),
		"zeros":              make([]byte, 8),
		"more zeros":         make([]byte, 300),
		"ones":               bytes.Repeat([]byte{255}, 300),
		"the lowest first":   slices.Concat(little(a), a, little(b), b),
		"lengths of 2 bytes": slices.Concat(pieces(a)[2:], pieces(b)[2:]),
	} {
		judges(t, what, y, c, api.EFORM)
	}
	for _, at := range []int{0, 4 + len(a)} {
		n := binary.BigEndian.Uint32(good[at:])
		for _, wrong := range []uint32{0, 1, n - 1, n + 1, n + 4, uint32(len(good)), 1<<31 - 1, 1 << 31, 1<<31 + n, math.MaxUint32 - 3, math.MaxUint32} {
			c := bytes.Clone(good)
			binary.BigEndian.PutUint32(c[at:], wrong)
			judges(t, fmt.Sprintf("a length of %d in the place of %d", wrong, n), y, c, api.EFORM)
		}
	}
	for what, bad := range formless(t, y, a) {
		judges(t, what, y, pieces(bad, b), api.EFORM)
		judges(t, what+", behind", y, pieces(b, bad), api.EFORM)
		judges(t, what+", beside one that does not hold", y, pieces(bad, turned(b, 300)), api.EFORM)
		judges(t, what+", behind one that does not hold", y, pieces(turned(b, 300), bad), api.EFORM)
	}
}

func little(b []byte) []byte { return binary.LittleEndian.AppendUint32(nil, uint32(len(b))) }

// TestJudgeUnderOthers: other widths, heights and public hashes than those that the heads were signed under.
func TestJudgeUnderOthers(t *testing.T) {
	y := of(t, 4, 2)
	good := pieces(y.of(0, 1, 9), y.of(1, 1, 8))
	for bit := range 32 {
		if e := verifier.Judge(4, 2, turned(y.public(), bit), good); e != api.ESIG {
			t.Errorf("P16.5: under another public hash: %d, want ESIG", e)
		}
	}
	for height := range api.MaxHeight + 1 {
		want := api.ESIG
		if height == y.height {
			want = api.OK
		}
		if e := verifier.Judge(4, height, y.public(), good); e != want {
			t.Errorf("P16.5: under the height %d: %d, want %d", height, e, want)
		}
	}
	for _, w := range edges() {
		for _, height := range edges() {
			for n := range 35 {
				public := make([]byte, n)
				for _, evidence := range [][]byte{good, nil} {
					e := verifier.Judge(w, height, public, evidence)
					if want := judgeWord(w, height, public, evidence); e != want || (e == api.EARG) == mayBeWord(w, height, public) {
						t.Fatalf("P16.5: Judge(%d, %d, %d bytes): %d, want %d", w, height, n, e, want)
					}
				}
			}
		}
	}
	if e := verifier.Judge(4, 2, y.public()[:3], nil); e != api.EARG {
		t.Errorf("P16.5: EARG comes ahead of EFORM: %d", e)
	}
}

// TestJudgeIsAsKept: anybody else judges what a verifier has kept.
func TestJudgeIsAsKept(t *testing.T) {
	y := of(t, 2, 3)
	v := y.verifier(t)
	for key := range 8 {
		for size := range uint32(4) {
			v.Head(y.of(key, size, byte(key)), none)
		}
	}
	l := v.Evidence()
	if len(l) < 20 {
		t.Errorf("%d pieces of evidence", len(l))
	}
	for _, evidence := range l {
		judges(t, "what is kept", y, evidence, api.OK)
	}
}
