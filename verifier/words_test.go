package verifier_test

import (
	"bytes"
	"encoding/binary"

	"almoner/api"
	"almoner/lamport"
	"almoner/merkle"
	"almoner/sha"
	"almoner/wire"
)

// plain is a verifier as the chapter's words say it: a list of all that it has seen, gone through from its beginning.
type plain struct {
	w, height int
	public    []byte
	seen      []api.Signed
	trusted   []api.Signed // one, or none
	kept      [][]byte
}

// mayBeWord is P16.1's.
func mayBeWord(w, height int, public []byte) bool {
	return 1 <= w && w <= 32 && 0 <= height && height <= 6 && len(public) == w
}

// holdsWord is the word "a head holds".
func holdsWord(w, height int, public []byte, s api.Signed) bool {
	message, err := wire.PutHead(s.Head)
	isKey := uint64(s.Key) < uint64(1)<<height
	return err == nil && len(s.Head.Root) == w && isKey && lamport.Check(w, height, public, int(s.Key), message, s.Signature)
}

// clashWord is the word "two heads clash", of two that hold.
func clashWord(a, b api.Signed) bool {
	sameRoot, sameSize := bytes.Equal(a.Head.Root, b.Head.Root), a.Head.Size == b.Head.Size
	return a.Key == b.Key && !(sameSize && sameRoot) || sameSize && !sameRoot
}

func (p *plain) head(signed, proof []byte) api.Errno {
	s, err := wire.GetSigned(signed)
	q, wrong := wire.GetProof(proof)
	if err != nil || wrong != nil || len(s.Head.Root) != p.w {
		return api.EFORM
	}
	if !holdsWord(p.w, p.height, p.public, s) {
		return api.ESIG
	}
	defer func() { p.seen = append(p.seen, s) }()
	if first, clashes := p.against(s); clashes {
		p.keep(pieces(told(first), told(s)))
		return api.EFORK
	}
	t, root := 0, sha.Sum(p.w, nil)
	if len(p.trusted) > 0 {
		t, root = int(p.trusted[0].Head.Size), p.trusted[0].Head.Root
	}
	n := int(s.Head.Size)
	if n < t {
		if merkle.CheckProof(p.w, n, t, s.Head.Root, root, q.Hashes) {
			return api.EOLD
		}
		return api.EPROOF
	}
	if !merkle.CheckProof(p.w, t, n, root, s.Head.Root, q.Hashes) {
		return api.EPROOF
	}
	if n > t || len(p.trusted) == 0 {
		p.trusted = []api.Signed{s}
	}
	return api.OK
}

// against tells which head that was seen a head clashes with: as P16.2's third case says.
func (p *plain) against(s api.Signed) (api.Signed, bool) {
	for _, x := range p.seen {
		if x.Key == s.Key && clashWord(x, s) {
			return x, true
		}
	}
	for _, x := range p.seen {
		if x.Head.Size == s.Head.Size && clashWord(x, s) {
			return x, true
		}
	}
	return api.Signed{}, false
}

func (p *plain) keep(evidence []byte) {
	for _, b := range p.kept {
		if bytes.Equal(b, evidence) {
			return
		}
	}
	p.kept = append(p.kept, evidence)
}

func (p *plain) entry(entry []byte, place int, path []byte) api.Errno {
	q, err := wire.GetProof(path)
	if err != nil {
		return api.EFORM
	}
	if len(p.trusted) == 0 {
		return api.ENONE
	}
	h := p.trusted[0].Head
	if place < 0 || int64(place) > int64(h.Size)-1 {
		return api.EARG
	}
	if !merkle.CheckPath(p.w, merkle.Leaf(p.w, entry), place, int(h.Size), q.Hashes, h.Root) {
		return api.EPROOF
	}
	return api.OK
}

// judgeWord is P16.5's.
func judgeWord(w, height int, public, evidence []byte) api.Errno {
	if !mayBeWord(w, height, public) {
		return api.EARG
	}
	var heads []api.Signed
	for rest := evidence; len(rest) > 0; {
		if len(rest) < 4 || uint64(binary.BigEndian.Uint32(rest)) > uint64(len(rest)-4) {
			return api.EFORM
		}
		end := 4 + int(binary.BigEndian.Uint32(rest))
		s, err := wire.GetSigned(rest[4:end])
		if err != nil || len(s.Head.Root) != w {
			return api.EFORM
		}
		heads = append(heads, s)
		rest = rest[end:]
	}
	if len(heads) != 2 {
		return api.EFORM
	}
	if !holdsWord(w, height, public, heads[0]) || !holdsWord(w, height, public, heads[1]) {
		return api.ESIG
	}
	if !clashWord(heads[0], heads[1]) {
		return api.EPROOF
	}
	return api.OK
}
