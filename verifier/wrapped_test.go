package verifier

import (
	"errors"
	"strings"
	"testing"

	"almoner/api"
	"almoner/lamport"
	"almoner/wire"
)

// TestWhatIsWrongIsWrapped is the chapter's "Ways": a face finds the number by errors.As, and what has shown it lies inside.
func TestWhatIsWrongIsWrapped(t *testing.T) {
	keys, _ := lamport.New(2, 0, []byte{1})
	s, err := newSigner(2, 0, keys.Public())
	if err != nil || errnoOf(err) != api.OK {
		t.Fatal(err)
	}
	_, wrongSigner := newSigner(2, 7, keys.Public())
	_, wrongHead := s.read([]byte{5, 0})
	_, wrongProof := readProof([]byte{6, 0, 0, 0, 0, 9})
	_, _, wrongEvidence := s.readEvidence([]byte{0, 0, 0, 1})
	wide, _ := wire.PutSigned(api.Signed{Head: api.Head{Root: []byte{1}}})
	_, wrongWidth := s.read(wide)
	head := api.Signed{Head: api.Head{Size: 1, Root: []byte{1, 2}}}
	other := api.Signed{Head: api.Head{Size: 1, Root: []byte{3, 4}}}
	l := newSightings()
	first, fork := l.take(head), l.take(other)
	if first != nil {
		t.Fatal(first)
	}
	for _, c := range []struct {
		err   error
		errno api.Errno
		why   error // of a fault inside
	}{
		{wrongSigner, api.EARG, nil},
		{wrongHead, api.EFORM, api.ErrShort},
		{wrongProof, api.EFORM, api.ErrTrailing},
		{wrongEvidence, api.EFORM, api.ErrShort},
		{wrongWidth, api.EFORM, nil},
		{s.check(head), api.ESIG, nil},
		{fork, api.EFORK, nil},
	} {
		if e := errnoOf(c.err); e != c.errno || !strings.HasPrefix(c.err.Error(), c.errno.Error()) {
			t.Errorf("%v: %d, want %d", c.err, e, c.errno)
		}
		var f *api.Fault
		if errors.As(c.err, &f) != (c.why != nil) || c.why != nil && (!errors.Is(c.err, c.why) || !strings.HasSuffix(c.err.Error(), f.Error())) {
			t.Errorf("%v: want %v inside", c.err, c.why)
		}
		var two *clash
		if errors.As(c.err, &two) != (c.errno == api.EFORK) || two != nil && (!sameHead(two.first, head) || !sameHead(two.second, other) || !strings.HasSuffix(c.err.Error(), two.Error())) {
			t.Errorf("%v: want the clash inside", c.err)
		}
	}
}
