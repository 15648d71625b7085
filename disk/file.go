package disk

// file is its bytes, of which the first ones are safe; the others are those of its pieces.
type file struct {
	bytes  []byte
	safe   int
	pieces []piece
}

// piece is what one write has left pending: the number of the write, by which the pieces of all files have an order, and how many bytes there are.
type piece struct {
	write, size int
}

// write puts bytes behind the others, pending.
func (f *file) write(number int, b []byte) {
	if len(b) == 0 {
		return
	}
	f.bytes = append(f.bytes, b...)
	f.pieces = append(f.pieces, piece{number, len(b)})
}

// sync makes all bytes safe.
func (f *file) sync() {
	f.safe = len(f.bytes)
	f.pieces = nil
}

// cut takes off what lies from the place n on. It is cleared, so that nothing of it lies in the room behind the bytes.
func (f *file) cut(n int) {
	gone := len(f.bytes) - n
	clear(f.bytes[n:])
	f.bytes = f.bytes[:n]
	f.safe = min(f.safe, n)
	f.drop(gone)
}

// drop lets the pieces go without their last bytes, so many of them: the last pieces first.
func (f *file) drop(gone int) {
	for gone > 0 && len(f.pieces) > 0 {
		last := &f.pieces[len(f.pieces)-1]
		n := min(gone, last.size)
		gone -= n
		last.size -= n
		if last.size == 0 {
			f.pieces = f.pieces[:len(f.pieces)-1]
		}
	}
}
