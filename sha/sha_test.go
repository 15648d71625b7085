package sha_test

import (
	"bytes"
	"crypto/sha256"
	"encoding/hex"
	"math"
	"math/rand"
	"strings"
	"testing"

	"almoner/api"
	"almoner/sha"
)

// some tells n bytes without a pattern, for one n always the same.
func some(n int) []byte {
	b := make([]byte, n)
	rand.New(rand.NewSource(int64(n))).Read(b)
	return b
}

// edges are lengths round the ends of blocks, and round where the number of bits has no room any more.
func edges() []int {
	var all []int
	for _, whole := range []int{0, 64, 128, 192, 4096} {
		for _, n := range []int{0, 1, 2, 54, 55, 56, 57, 62, 63} {
			all = append(all, whole+n)
		}
	}
	return all
}

// wantHash asks for the first w bytes of the hash of b.
func wantHash(t *testing.T, name string, got []byte, w int, b []byte) {
	t.Helper()
	want := sha256.Sum256(b)
	if !bytes.Equal(got, want[:w]) {
		t.Errorf("%s: %x, want %x", name, got, want[:w])
	}
}

// The chapter's examples of whole hashes (P2.1).
func TestSumExamples(t *testing.T) {
	for _, c := range []struct{ text, want string }{
		{"", "e3b0c442 98fc1c14 9afbf4c8 996fb924 27ae41e4 649b934c a495991b 7852b855"},
		{"abc", "ba7816bf 8f01cfea 414140de 5dae2223 b00361a3 96177a9c b410ff61 f20015ad"},
		{"abcdbcdecdefdefgefghfghighijhijkijkljklmklmnlmnomnopnopq", "248d6a61 d20638b8 e5c02693 0c3e6039 a33ce459 64ff2167 f6ecedd4 19db06c1"},
		{strings.Repeat("a", 1000000), "cdc76e5c 9914fb92 81a1c7e2 84d73e67 f1809a48 a497200e 046d39cc c7112cd0"},
	} {
		want := strings.ReplaceAll(c.want, " ", "")
		if got := hex.EncodeToString(sha.Sum(32, []byte(c.text))); got != want {
			t.Errorf("Sum(32, %.20q): %s, want %s", c.text, got, want)
		}
		h := sha.New()
		h.Write([]byte(c.text))
		if got := hex.EncodeToString(h.Sum(32)); got != want {
			t.Errorf("a Hash of %.20q: %s, want %s", c.text, got, want)
		}
	}
	for w, want := range map[int]string{4: "ba7816bf", 1: "ba", 0: "", 33: ""} {
		if got := hex.EncodeToString(sha.Sum(w, []byte("abc"))); got != want {
			t.Errorf("Sum(%d, abc): %s, want %s", w, got, want)
		}
	}
}

// The chapter's example of a Hash (P2.2).
func TestHashExample(t *testing.T) {
	h := sha.New()
	h.Write([]byte("a"))
	one := h.Sum(1)
	h.Write([]byte("bc"))
	two := h.Sum(2)
	three := h.Len()
	h.Reset()
	if hex.EncodeToString(one) != "ca" || hex.EncodeToString(two) != "ba78" || three != 3 {
		t.Errorf("%x; %x; %d, want ca; ba78; 3", one, two, three)
	}
	if h.Len() != 0 || hex.EncodeToString(h.Sum(1)) != "e3" {
		t.Errorf("behind Reset: %d; %x, want 0; e3", h.Len(), h.Sum(1))
	}
}

// P2.1, P2.3: every width is the beginning of the whole hash; those that are none tell none.
func TestWidths(t *testing.T) {
	if api.MaxWidth != 32 {
		t.Fatalf("MaxWidth is %d", api.MaxWidth)
	}
	for _, n := range []int{0, 1, 55, 56, 64, 200} {
		b := some(n)
		h := sha.New()
		h.Write(b)
		for w := 1; w <= 32; w++ {
			wantHash(t, "Sum", sha.Sum(w, b), w, b)
			wantHash(t, "Hash.Sum", h.Sum(w), w, b)
			for v := w; v <= 32; v++ {
				if !bytes.HasPrefix(sha.Sum(v, b), sha.Sum(w, b)) {
					t.Errorf("Sum(%d) is no beginning of Sum(%d)", w, v)
				}
			}
		}
		for _, w := range []int{0, 33, 34, -1, -32, 64, 255, 256, 257, 288, 1 << 16, 1<<32 + 1, 1<<32 + 32, -1<<32 + 4, math.MaxInt, math.MinInt, math.MinInt + 1} {
			if got := sha.Sum(w, b); len(got) != 0 {
				t.Errorf("Sum(%d): %x, want none", w, got)
			}
			if got := h.Sum(w); len(got) != 0 {
				t.Errorf("Hash.Sum(%d): %x, want none", w, got)
			}
		}
		wantHash(t, "behind widths that are none", h.Sum(32), 32, b)
	}
}

// P2.1: all lengths up to some blocks, and the edges behind them.
func TestLengths(t *testing.T) {
	for n := range 4*64 + 2 {
		wantHash(t, "Sum", sha.Sum(32, some(n)), 32, some(n))
	}
	for _, n := range edges() {
		wantHash(t, "Sum of random bytes", sha.Sum(32, some(n)), 32, some(n))
		for _, each := range []byte{0, 128, 255} {
			b := bytes.Repeat([]byte{each}, n)
			wantHash(t, "Sum of one byte again and again", sha.Sum(32, b), 32, b)
		}
	}
	wantHash(t, "Sum(nil)", sha.Sum(32, nil), 32, nil)
	wantHash(t, "Sum of an empty list", sha.Sum(32, []byte{}), 32, nil)
	// The number of bits has more than two bytes, and more than three.
	for _, n := range []int{1<<13 - 1, 1 << 13, 1<<21 - 1, 1 << 21, 1<<21 + 7} {
		wantHash(t, "Sum of many", sha.Sum(32, some(n)), 32, some(n))
	}
}

// P2.3: two pieces, cut at every place.
func TestTwoPieces(t *testing.T) {
	for _, n := range []int{1, 55, 56, 63, 64, 65, 119, 120, 127, 128, 129, 200} {
		b := some(n)
		for cut := range n + 1 {
			h := sha.New()
			h.Write(b[:cut])
			wantHash(t, "the first piece", h.Sum(32), 32, b[:cut])
			h.Write(b[cut:])
			wantHash(t, "both", h.Sum(32), 32, b)
			if h.Len() != uint64(n) {
				t.Errorf("Len %d, want %d", h.Len(), n)
			}
		}
	}
}

// P2.3: pieces of one size, whatever it is.
func TestLikePieces(t *testing.T) {
	b := some(777)
	for size := 1; size <= 200; size++ {
		h := sha.New()
		for rest := b; len(rest) > 0; {
			n := min(size, len(rest))
			h.Write(rest[:n])
			rest = rest[n:]
		}
		wantHash(t, "pieces", h.Sum(32), 32, b)
	}
}

// P2.2, P2.3: pieces of any size, empty ones too, Sum and Len asked in the midst or not, Reset now and then.
func TestAnyPieces(t *testing.T) {
	r := rand.New(rand.NewSource(2))
	for range 300 {
		asked, still := sha.New(), sha.New()
		var all []byte
		for range 12 {
			piece := some(r.Intn(1 + r.Intn(150)))
			if r.Intn(10) == 0 {
				piece = nil
			}
			all = append(all, piece...)
			asked.Write(piece)
			still.Write(piece)
			w := 1 + r.Intn(32)
			for range r.Intn(3) {
				wantHash(t, "in the midst", asked.Sum(w), w, all)
			}
			if asked.Len() != uint64(len(all)) {
				t.Errorf("Len %d, want %d", asked.Len(), len(all))
			}
			if r.Intn(8) == 0 {
				asked.Reset()
				still.Reset()
				all = nil
				wantHash(t, "behind Reset", asked.Sum(32), 32, nil)
			}
		}
		wantHash(t, "asked all along", asked.Sum(32), 32, all)
		wantHash(t, "not asked", still.Sum(32), 32, all)
	}
}

// P2.2: a new Hash has taken nothing, and empty pieces are nothing.
func TestNothing(t *testing.T) {
	h := sha.New()
	for range 3 {
		if h.Len() != 0 {
			t.Errorf("Len %d of nothing", h.Len())
		}
		wantHash(t, "nothing", h.Sum(32), 32, nil)
		h.Write(nil)
		h.Write([]byte{})
	}
}

// P2.2: Reset, from every number of bytes in the last block, twice too.
func TestReset(t *testing.T) {
	for _, n := range edges() {
		h := sha.New()
		h.Write(some(n))
		h.Reset()
		if n%2 == 0 {
			h.Reset()
		}
		if h.Len() != 0 {
			t.Errorf("Len %d behind Reset", h.Len())
		}
		wantHash(t, "behind Reset", h.Sum(32), 32, nil)
		h.Write(some(n / 3))
		wantHash(t, "anew", h.Sum(32), 32, some(n/3))
	}
}

// P2.3: a Hash that is copied as a value shares nothing with the first one, to either side, Reset too.
func TestCopiedHash(t *testing.T) {
	for _, n := range edges() {
		b := some(n)
		first := sha.New()
		first.Write(b)
		copied, left, gone := *first, *first, *first

		first.Write([]byte("first"))
		copied.Write([]byte("the copy, which has taken more than the first one, more than one whole block of bytes, at the least"))
		gone.Reset()

		wantHash(t, "the first", first.Sum(32), 32, append(bytes.Clone(b), "first"...))
		wantHash(t, "the copy", copied.Sum(32), 32, append(bytes.Clone(b), "the copy, which has taken more than the first one, more than one whole block of bytes, at the least"...))
		wantHash(t, "the copy that was left alone", left.Sum(32), 32, b)
		wantHash(t, "the copy that was reset", gone.Sum(32), 32, nil)
		if first.Len() != uint64(n+5) || copied.Len() != uint64(n+99) || left.Len() != uint64(n) || gone.Len() != 0 {
			t.Errorf("Len %d %d %d %d", first.Len(), copied.Len(), left.Len(), gone.Len())
		}
	}
}

// R5: two Hashes have nothing in common.
func TestTwoHashes(t *testing.T) {
	one, two := sha.New(), sha.New()
	for i := range 200 {
		one.Write([]byte{byte(i)})
		two.Write([]byte{byte(3 * i), 7})
	}
	var b, c []byte
	for i := range 200 {
		b, c = append(b, byte(i)), append(c, byte(3*i), 7)
	}
	wantHash(t, "one", one.Sum(32), 32, b)
	wantHash(t, "two", two.Sum(32), 32, c)
}

// P2.4: what is handed in is not changed, its spare room neither.
func TestArgumentsUnchanged(t *testing.T) {
	for _, n := range edges() {
		all := some(n + 200)
		before := bytes.Clone(all)
		sha.Sum(32, all[:n])
		h := sha.New()
		h.Write(all[:n/2])
		h.Write(all[n/2 : n])
		h.Sum(32)
		h.Write(all[:n])
		h.Reset()
		if !bytes.Equal(all, before) {
			t.Errorf("%d bytes that were handed in are changed", n)
		}
	}
}

// P2.4: what is handed in is not kept: changed afterwards, it makes no difference.
func TestArgumentsNotKept(t *testing.T) {
	for _, n := range edges() {
		b := some(n)
		piece := bytes.Clone(b)
		h := sha.New()
		h.Write(piece)
		clear(piece)
		wantHash(t, "a piece that is changed afterwards", h.Sum(32), 32, b)
		copy(piece, b)
		h.Write(piece)
		for i := range piece {
			piece[i] = 1
		}
		wantHash(t, "two of them", h.Sum(32), 32, append(bytes.Clone(b), b...))
	}
}

// P2.4: what is answered is new memory, its spare room too: changed afterwards, it makes no difference.
func TestAnswersAreNew(t *testing.T) {
	b := some(70)
	h := sha.New()
	h.Write(b)
	for w := 1; w <= 32; w++ {
		for _, sum := range []func(int) []byte{h.Sum, func(w int) []byte { return sha.Sum(w, b) }} {
			one, two := sum(w), sum(w)
			for i := range one[:cap(one)] {
				one[:cap(one)][i] ^= 0xff
			}
			wantHash(t, "another answer", two, w, b)
			wantHash(t, "a later answer", sum(w), w, b)
		}
	}
	h.Write(b)
	wantHash(t, "what goes on behind it", h.Sum(32), 32, append(bytes.Clone(b), b...))
	wantHash(t, "nothing", sha.Sum(32, nil), 32, nil)
}

func BenchmarkSum(b *testing.B) {
	data := some(1 << 16)
	b.SetBytes(int64(len(data)))
	for b.Loop() {
		sha.Sum(32, data)
	}
}

func BenchmarkSmall(b *testing.B) {
	data := some(40)
	for b.Loop() {
		sha.Sum(32, data)
	}
}
