package bundle

import (
	"almoner/api"
	"almoner/bytesio"
	"almoner/merkle"
	"almoner/wire"
)

const numberSize = 4 // bytes

// file is a bundle in its parts, each as bytes.
type file struct {
	signed []byte
	pages  []page
	hashes [][]byte
}

// page is an entry, and the place at which it is said to be.
type page struct {
	place uint32
	entry []byte
}

// lay tells a bundle's bytes.
func lay(f file) []byte {
	w := bytesio.NewWriter()
	w.Bytes(f.signed, len(f.signed))
	w.Count(len(f.pages), len(f.pages))
	for _, p := range f.pages {
		w.U32(p.place)
		w.Bytes(p.entry, len(p.entry))
	}
	w.Count(len(f.hashes), len(f.hashes))
	b, _ := w.Done()
	for _, hash := range f.hashes {
		b = append(b, hash...) // all of one width: their lengths are not told
	}
	return b
}

// cut tells the parts of bytes; false, if there are fewer or more bytes than the parts say. Each part ends with its own room, so that nobody whom it is handed to can reach what lies behind it. What the parts are is not asked.
func cut(w int, b []byte) (f file, isWhole bool) {
	isWhole = true
	next := func(n uint32) []byte {
		if uint64(n) > uint64(len(b)) {
			isWhole, n = false, 0
		}
		part := b[:n:n]
		b = b[n:]
		return part
	}
	number := func() (n uint32) {
		for _, x := range next(numberSize) {
			n = n<<8 | uint32(x)
		}
		return n
	}
	f.signed = next(number())
	for left := number(); left > 0 && isWhole; left-- { // as soon as bytes are missing no more is asked for, however much is said to be left
		place := number()
		f.pages = append(f.pages, page{place, next(number())})
	}
	for left := number(); left > 0 && isWhole; left-- {
		f.hashes = append(f.hashes, next(uint32(w)))
	}
	return f, isWhole && len(b) == 0
}

// read tells the signed head and the events of the parts; false, if one of them is none, or the places are not such as they may be.
func (f file) read(w int) (signed api.Signed, events []api.Event, isFormed bool) {
	signed, err := wire.GetSigned(f.signed)
	if err != nil || len(signed.Head.Root) != w {
		return signed, nil, false
	}
	least := uint32(0)
	for _, p := range f.pages {
		event, err := wire.GetEvent(p.entry)
		if err != nil || event.Place != p.place || p.place < least || p.place >= signed.Head.Size {
			return signed, nil, false
		}
		events = append(events, event)
		least = p.place + 1 // at most the size: it does not wrap round
	}
	return signed, events, true
}

// leadsTo tells whether the hashes lead from the entries to a head's root, all of them of its width.
func (f file) leadsTo(head api.Head) bool {
	w := len(head.Root)
	var leaves [][]byte
	var places []int
	for _, p := range f.pages {
		leaves = append(leaves, merkle.Leaf(w, p.entry))
		places = append(places, int(p.place))
	}
	return merkle.CheckMany(w, leaves, places, int(head.Size), f.hashes, head.Root)
}
