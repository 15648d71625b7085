package verifier_test

import (
	"testing"

	"almoner/api"
	"almoner/merkle"
	"almoner/verifier"
)

// TestExamples goes through the chapter's table, one verifier through all of it.
func TestExamples(t *testing.T) {
	y := of(t, 4, 1)
	v := y.verifier(t)
	first, second, third := y.of(0, 1, 9), y.of(1, 2, 9), y.of(1, 1, 8)

	trusts(t, "a new one", v, nil)
	answers(t, "S(0, 1, 9)", v, first, none, api.OK)
	trusts(t, "behind it", v, first)

	answers(t, "S(0, 1, 9) once more", v, first, none, api.OK)
	answers(t, "S(1, 2, 9)", v, second, none, api.EPROOF)
	answers(t, "S(0, 1, 9) without its last byte", v, first[:len(first)-1], none, api.EFORM)

	answers(t, "another bit in its signature", v, turned(first, 8*len(first)-1), none, api.ESIG)
	answers(t, "S(1, 1, 8)", v, third, none, api.EFORK)
	finds(t, "the key 1 has signed two", v, pieces(second, third))

	for _, c := range []struct {
		what     string
		evidence []byte
		want     api.Errno
	}{
		{"it", v.Evidence()[0], api.OK},
		{"its halves changed about", pieces(third, second), api.OK},
		{"S(0, 1, 9) twice", pieces(first, first), api.EPROOF},
		{"nothing", nil, api.EFORM},
	} {
		if e := verifier.Judge(4, 1, y.public(), c.evidence); e != c.want {
			t.Errorf("P16.5: Judge of %s: %d, want %d", c.what, e, c.want)
		}
	}

	for _, c := range []struct {
		place int
		want  api.Errno
	}{{0, api.EPROOF}, {1, api.EARG}} {
		for _, entry := range [][]byte{nil, {0}, []byte("any"), y.root(9)} {
			if e := v.Entry(entry, c.place, none); e != c.want {
				t.Errorf("P16.4: Entry(%x, %d, none): %d, want %d", entry, c.place, e, c.want)
			}
		}
	}

	for _, c := range []struct{ height, many int }{{7, 4}, {1, 3}} {
		if v, e := verifier.New(4, c.height, make([]byte, c.many)); v != nil || e != api.EARG {
			t.Errorf("P16.1: New(4, %d, %d bytes): %v, %d, want EARG", c.height, c.many, v, e)
		}
	}
}

// TestExampleOfALeaf: "but where its leaf is 9 9 9 9", of width 1, where such an entry is soon found.
func TestExampleOfALeaf(t *testing.T) {
	y := of(t, 1, 1)
	v := y.verifier(t)
	answers(t, "S(0, 1, 9)", v, y.of(0, 1, 9), none, api.OK)
	found := 0
	for x := range 1 << 12 {
		entry := []byte{byte(x >> 8), byte(x)}
		want := api.EPROOF
		if merkle.Leaf(1, entry)[0] == 9 {
			want = api.OK
			found++
		}
		if e := v.Entry(entry, 0, none); e != want {
			t.Errorf("P16.4: Entry(%x, 0, none): %d, want %d", entry, e, want)
		}
	}
	if found == 0 {
		t.Error("no entry has that leaf")
	}
}
