package verifier_test

import (
	"math"
	"slices"
	"testing"

	"almoner/api"
	"almoner/verifier"
)

// edges are numbers about all that a width and a height may be, and very great ones.
func edges() []int {
	l := []int{math.MinInt, math.MinInt32, -256, -64, math.MaxInt16, math.MaxInt32, 1 << 32, 1<<32 + 4, math.MaxInt - 1, math.MaxInt}
	for n := -2; n <= 70; n++ {
		l = append(l, n)
	}
	return l
}

// TestNew asks for each width and height, with each length of a public hash.
func TestNew(t *testing.T) {
	for _, w := range edges() {
		for _, height := range edges() {
			lengths := []int{0, 1, 4, 31, 32, 33, 64}
			if 0 <= w && w <= 70 {
				lengths = append(lengths, w, w+1, max(0, w-1))
			}
			for _, n := range lengths {
				public := make([]byte, n)
				v, e := verifier.New(w, height, public)
				if !mayBeWord(w, height, public) {
					if v != nil || e != api.EARG {
						t.Fatalf("P16.1: New(%d, %d, %d bytes): %v, %d, want EARG", w, height, n, v, e)
					}
					continue
				}
				if v == nil || e != api.OK {
					t.Fatalf("P16.1: New(%d, %d, %d bytes): %v, %d, want OK", w, height, n, v, e)
				}
				isNew(t, v)
			}
		}
	}
	for _, w := range []int{-1, 0, 1} {
		if v, e := verifier.New(w, 0, nil); v != nil || e != api.EARG {
			t.Errorf("P16.1: New(%d, 0, none): %v, %d, want EARG", w, v, e)
		}
	}
}

// isNew asks for a verifier that trusts no head.
func isNew(t *testing.T, v *verifier.Verifier) {
	t.Helper()
	trusts(t, "a new one", v, nil)
	finds(t, "a new one", v)
	for _, place := range []int{math.MinInt, -1, 0, 1, math.MaxInt} {
		if e := v.Entry(nil, place, none); e != api.ENONE {
			t.Fatalf("P16.4: Entry at %d of a new one: %d, want ENONE", place, e)
		}
	}
}

// TestNewOfEachShape: a verifier of each width and some heights takes the heads of such a system, and no others.
func TestNewOfEachShape(t *testing.T) {
	for w := 1; w <= api.MaxWidth; w++ {
		for _, height := range []int{0, 1, 2} {
			takesItsOwn(t, of(t, w, height))
		}
	}
	for _, w := range []int{1, 2, 3, 32} {
		takesItsOwn(t, of(t, w, api.MaxHeight))
	}
}

func takesItsOwn(t *testing.T, y system) {
	t.Helper()
	last := y.keys.Len() - 1
	for _, key := range slices.Compact([]int{0, last / 2, last}) {
		v := y.verifier(t)
		signed := y.of(key, 7, 5)
		answers(t, "its own", v, signed, none, api.OK)
		trusts(t, "its own", v, signed)
	}
	if y.w < 4 { // of these another system's may hold by chance
		return
	}
	other := turned(y.public(), 3)
	v, e := verifier.New(y.w, y.height, other)
	if e != api.OK {
		t.Fatal(e)
	}
	refuses(t, "of another public hash", v, y.of(0, 7, 5), none, api.ESIG)
	for height := range api.MaxHeight + 1 {
		if height == y.height {
			continue
		}
		v, e := verifier.New(y.w, height, y.public())
		if e != api.OK {
			t.Fatal(e)
		}
		refuses(t, "of another height", v, y.of(0, 7, 5), none, api.ESIG)
	}
}
