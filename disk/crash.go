package disk

import (
	"cmp"
	"slices"

	"almoner/api"
)

// Arm lets the disk take b bytes of the n-th Append from now on, and go off.
func (d *Disk) Arm(n, b int) api.Errno {
	if d.off {
		return api.EOFF
	}
	if n < 1 || b < 0 {
		return api.EARG
	}
	d.left, d.tear = n, b
	return api.OK
}

// Fill says whether the disk has no room, whatever its limit.
func (d *Disk) Fill(full bool) { d.full = full }

// Start lets it go on again.
func (d *Disk) Start() { d.off = false }

// Off tells whether it is off.
func (d *Disk) Off() bool { return d.off }

// Crash lets the disk go off; of what is not safe the first keep bytes stay.
func (d *Disk) Crash(keep int) {
	d.off = true
	d.left, d.tear = 0, 0
	d.rescue(max(keep, 0))
	for _, f := range d.files {
		d.shorten(f, f.safe)
		f.sync()
	}
}

// rescue makes the first so many of the pending bytes safe. (The pieces still have them, till all are dropped.)
func (d *Disk) rescue(keep int) {
	for _, p := range d.inOrder() {
		n := min(p.size, keep)
		keep -= n
		p.of.safe += n
	}
}

// owned is a piece with its file.
type owned struct {
	piece
	of *file
}

// inOrder tells the pieces of all files, as they were written.
func (d *Disk) inOrder() []owned {
	var all []owned
	for _, f := range d.files {
		for _, p := range f.pieces {
			all = append(all, owned{p, f})
		}
	}
	slices.SortFunc(all, func(a, b owned) int { return cmp.Compare(a.write, b.write) })
	return all
}
