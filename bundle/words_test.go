package bundle_test

import (
	"bytes"
	"encoding/binary"
	"slices"

	"almoner/api"
	"almoner/bytesio"
	"almoner/lamport"
	"almoner/merkle"
	"almoner/record"
	"almoner/wire"
)

// parts are a bundle's, to be laid as they are or with something changed.
type parts struct {
	signed  []byte
	places  []uint32
	entries [][]byte
	hashes  [][]byte
}

// number tells a number's four bytes.
func number(n uint32) []byte { return binary.BigEndian.AppendUint32(nil, n) }

// run tells bytes, and ahead of them how many they are.
func run(b []byte) []byte { return append(number(uint32(len(b))), b...) }

// bytes is the word "a bundle's bytes".
func (p parts) bytes() []byte {
	all := [][]byte{run(p.signed), number(uint32(len(p.places)))}
	for i, place := range p.places {
		all = append(all, number(place), run(p.entries[i]))
	}
	all = append(all, number(uint32(len(p.hashes))))
	return slices.Concat(append(all, p.hashes...)...)
}

// copied tells parts that can be changed.
func (p parts) copied() parts {
	return parts{bytes.Clone(p.signed), slices.Clone(p.places), clones(p.entries), clones(p.hashes)}
}

func clones(l [][]byte) [][]byte {
	var all [][]byte
	for _, b := range l {
		all = append(all, bytes.Clone(b))
	}
	return all
}

// parts tells those of the bundle of a head and places.
func (y system) parts(signed api.Signed, places ...int) parts {
	p := parts{signed: putSigned(signed)}
	entries := y.entries()[:signed.Head.Size]
	for _, place := range places {
		p.places = append(p.places, uint32(place))
		p.entries = append(p.entries, entries[place])
	}
	p.hashes, _ = merkle.Many(y.w, entries, places)
	return p
}

// recordWord is P19.1, of the answers that the model gives to requests.
func recordWord(l []api.Request, number uint32, n int) ([]int, api.Errno) {
	if n < 0 || n > len(l) {
		return nil, api.EARG
	}
	var places []int
	for i, a := range record.Answers(people, l)[:n] {
		r := l[i]
		if r.Record == number || r.Op == api.OpCreate && a.Code == api.Done && a.Record == number {
			places = append(places, i)
		}
	}
	return places, api.OK
}

// makeWord is P19.2.
func (y system) makeWord(signed api.Signed, places []int) ([]byte, api.Errno) {
	n := int64(signed.Head.Size)
	if n > int64(y.s.Len()) {
		return nil, api.EARG
	}
	for i, place := range places {
		if place < 0 || int64(place) >= n || i > 0 && place <= places[i-1] {
			return nil, api.EARG
		}
	}
	if _, err := wire.PutSigned(signed); err != nil {
		return nil, api.EARG
	}
	if !bytes.Equal(signed.Head.Root, merkle.Root(y.w, y.entries()[:n])) {
		return nil, api.EPROOF
	}
	return y.parts(signed, places...).bytes(), api.OK
}

// kWord is chapter 4's k(n).
func kWord(n int) int {
	k := 1
	for 2*k < n {
		k *= 2
	}
	return k
}

// split tells the places below k, and the others, each less k.
func split(places []int, k int) (below, others []int) {
	for _, place := range places {
		if place < k {
			below = append(below, place)
		} else {
			others = append(others, place-k)
		}
	}
	return below, others
}

// topWord is where one comes to with leaves, at places of n, and hashes; and the hashes that are not used; none and false, if there are too few.
func topWord(w int, leaves [][]byte, places []int, n int, hashes [][]byte) (top []byte, unused [][]byte, ok bool) {
	if len(places) == 0 {
		if len(hashes) == 0 {
			return nil, nil, false
		}
		return hashes[0], hashes[1:], true
	}
	if n == 1 {
		return leaves[0], hashes, true
	}
	k := kWord(n)
	below, others := split(places, k)
	left, hashes, ok := topWord(w, leaves[:len(below)], below, k, hashes)
	if !ok {
		return nil, nil, false
	}
	right, hashes, ok := topWord(w, leaves[len(below):], others, n-k, hashes)
	if !ok {
		return nil, nil, false
	}
	return merkle.Node(w, left, right), hashes, true
}

// partsWord tells the parts of bytes, if they are any.
func partsWord(w int, b []byte) (parts, bool) {
	r := bytesio.NewReader(b)
	p := parts{signed: r.Bytes(len(b))}
	for n := r.U32(); n > 0 && r.Err() == nil; n-- {
		p.places = append(p.places, r.U32())
		p.entries = append(p.entries, r.Bytes(len(b)))
	}
	for n := r.U32(); n > 0 && r.Err() == nil; n-- {
		hash := make([]byte, w)
		for i := range hash {
			hash[i] = r.U8()
		}
		p.hashes = append(p.hashes, hash)
	}
	return p, r.Done() == nil
}

// checkWord is P19.3.
func checkWord(w, height int, public, b []byte) (api.Signed, []api.Event, api.Errno) {
	if w < 1 || w > 32 || height < 0 || height > 6 || len(public) != w {
		return api.Signed{}, nil, api.EARG
	}
	p, ok := partsWord(w, b)
	signed, err := wire.GetSigned(p.signed)
	if !ok || err != nil || len(signed.Head.Root) != w {
		return api.Signed{}, nil, api.EFORM
	}
	var events []api.Event
	var places []int
	var leaves [][]byte
	for i, place := range p.places {
		event, err := wire.GetEvent(p.entries[i])
		if err != nil || place >= signed.Head.Size || place != event.Place || i > 0 && place <= p.places[i-1] {
			return api.Signed{}, nil, api.EFORM
		}
		events, places, leaves = append(events, event), append(places, int(place)), append(leaves, merkle.Leaf(w, p.entries[i]))
	}
	if !holdsWord(w, height, public, signed) {
		return api.Signed{}, nil, api.ESIG
	}
	top, unused, ok := topWord(w, leaves, places, int(signed.Head.Size), p.hashes)
	if !ok || len(unused) > 0 || !bytes.Equal(top, signed.Head.Root) {
		return api.Signed{}, nil, api.EPROOF
	}
	return signed, events, api.OK
}

// holdsWord is chapter 16's "a head holds".
func holdsWord(w, height int, public []byte, s api.Signed) bool {
	message, err := wire.PutHead(s.Head)
	isKey := uint64(s.Key) < uint64(1)<<height
	return err == nil && len(s.Head.Root) == w && isKey && lamport.Check(w, height, public, int(s.Key), message, s.Signature)
}
