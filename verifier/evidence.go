package verifier

import (
	"bytes"

	"almoner/api"
	"almoner/bytesio"
	"almoner/wire"
)

// clash is two heads that hold and can't both be.
type clash struct{ first, second api.Signed }

// Error tells it in words.
func (c *clash) Error() string { return "two signed heads that can't both be" }

// evidence tells the clash as bytes.
func (c *clash) evidence() []byte {
	w := bytesio.NewWriter()
	for _, head := range []api.Signed{c.first, c.second} {
		b, _ := wire.PutSigned(head) // wire tells what it has read
		w.Bytes(b, len(b))
	}
	evidence, _ := w.Done()
	return evidence
}

// readEvidence tells the two heads of bytes. Whether they hold, and clash, is not asked.
func (s signer) readEvidence(evidence []byte) (first, second api.Signed, err error) {
	r := bytesio.NewReader(evidence)
	b1, b2 := r.Bytes(len(evidence)), r.Bytes(len(evidence))
	if err := r.Done(); err != nil {
		return api.Signed{}, api.Signed{}, &refusal{api.EFORM, err}
	}
	if first, err = s.read(b1); err == nil {
		second, err = s.read(b2)
	}
	return first, second, err
}

// Judge tells whether evidence shows that: OK, or why it does not.
func Judge(w, height int, public, evidence []byte) api.Errno {
	return errnoOf(judge(w, height, public, evidence))
}

func judge(w, height int, public, evidence []byte) error {
	s, err := newSigner(w, height, public)
	if err != nil {
		return err
	}
	first, second, err := s.readEvidence(evidence)
	if err != nil {
		return err
	}
	if err := s.check(first, second); err != nil {
		return err
	}
	if !canClash(first, second) {
		return &refusal{errno: api.EPROOF}
	}
	return nil
}

// canClash tells whether two heads clash, if both hold.
func canClash(a, b api.Signed) bool {
	return !sameHead(a, b) && (a.Key == b.Key || a.Head.Size == b.Head.Size)
}

// sameHead tells whether two signed heads say the same. Of two of one size it asks just for the roots.
func sameHead(a, b api.Signed) bool {
	return a.Head.Size == b.Head.Size && bytes.Equal(a.Head.Root, b.Head.Root)
}
