package world

import (
	"bytes"
	"slices"

	"almoner/api"
	"almoner/disk"
	"almoner/node"
)

// member is a node as the world asks it, be it up or off.
type member interface {
	Up() bool
	Events() []api.Event
	Take(from int, m api.Message) []node.Out
	Tick() []node.Out
	Head() (api.Signed, api.Errno)
	Inclusion(place, size int) (api.Proof, api.Errno)
	Consistency(m, size int) (api.Proof, api.Errno)
}

// up is a node that is up: it is asked itself.
type up struct{ *node.Node }

func (up) Up() bool { return true }

// off is a node that is off: nothing is left of it, beside its disk, but the events that it had.
type off struct{ log []api.Event }

func (off) Up() bool { return false }

func (o off) Events() []api.Event {
	var events []api.Event
	for _, ev := range o.log {
		ev.Request.Fields, ev.Digest = slices.Clone(ev.Request.Fields), bytes.Clone(ev.Digest)
		events = append(events, ev)
	}
	return events
}

// What comes for a node that is off is lost.
func (off) Take(int, api.Message) []node.Out { return nil }

func (off) Tick() []node.Out { return nil }

func (off) Head() (api.Signed, api.Errno) { return api.Signed{}, api.EOFF }

func (off) Inclusion(int, int) (api.Proof, api.Errno) { return api.Proof{}, api.EOFF }

func (off) Consistency(int, int) (api.Proof, api.Errno) { return api.Proof{}, api.EOFF }

// host is where a node stands: its disk, which outlives it, and the node itself. It is off just if its disk is.
type host struct {
	disk *disk.Disk
	node member
}

// open lets the node be up, from what lies on its disk.
func (h *host) open(c api.Config, place int) api.Errno {
	n, errno := node.Open(c, place, h.disk)
	if errno == api.OK {
		h.node = up{n}
	}
	return errno
}

// notice lets the node be off, if its disk has gone off under it.
func (h *host) notice() {
	if h.node.Up() && h.disk.Off() {
		h.node = off{h.node.Events()}
	}
}
