package world

import "almoner/disk"

// Disk tells a node's: so that the tests see what lies there, and turn bits of it, which no step does.
func (w *World) Disk(node int) *disk.Disk { return w.hosts[node].disk }
