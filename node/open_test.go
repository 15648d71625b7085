package node_test

import (
	"fmt"
	"math"
	"slices"
	"testing"

	"almoner/api"
	"almoner/node"
)

// noPlaces are numbers that are no node's.
var noPlaces = []int{math.MinInt, math.MinInt32, -256, -2, -1, 3, 4, 9, 10, 256, 257, 258, math.MaxInt32, 1 << 32, 1<<32 + 1, 1<<32 + 2, math.MaxInt}

func TestOpenAtEachPlace(t *testing.T) {
	names := map[int][]string{node.Head: {"log.0"}, node.Middle: {"log.0"}, node.Tail: {"keys.0", "log.0"}}
	keys := map[int]int{node.Tail: 4}
	for _, place := range places {
		n, d := fresh(t, examples(), place)
		holds(t, fmt.Sprintf("P15.1: a new node at %d", place), n, -1)
		if n.Keys() != keys[place] {
			t.Errorf("P15.5: Keys of a new node at %d: %d", place, n.Keys())
		}
		if !slices.Equal(d.Names(), names[place]) {
			t.Errorf("P15.1: the disk of a new node at %d: %v", place, d.Names())
		}
	}
}

// TestOpenAtNoPlace: the place is looked at ahead of all else, and the disk stays as it is.
func TestOpenAtNoPlace(t *testing.T) {
	wrong := examples()
	wrong.Width = 0
	for _, place := range noPlaces {
		d := newDisk(t, 65536)
		fails(t, "no place", examples(), place, d, api.EARG)
		fails(t, "no place, and a Config that may not be", wrong, place, d, api.EARG)
		if len(d.Names()) != 0 {
			t.Errorf("R3: Open at %d: the disk has %v", place, d.Names())
		}
		d.Crash(0)
		fails(t, "no place, and the disk is off", examples(), place, d, api.EARG)
	}
}

// wrongConfigs are some that may not be.
func wrongConfigs() map[string]api.Config {
	all := map[string]api.Config{}
	change := func(what string, how func(c *api.Config)) {
		c := examples()
		how(&c)
		all[what] = c
	}
	change("Width 0", func(c *api.Config) { c.Width = 0 })
	change("Width 33", func(c *api.Config) { c.Width = 33 })
	change("Height -1", func(c *api.Config) { c.Height = -1 })
	change("Height 7", func(c *api.Config) { c.Height = 7 })
	change("no Seed", func(c *api.Config) { c.Seed = nil })
	change("a long Seed", func(c *api.Config) { c.Seed = make([]byte, 65) })
	change("Staff that is not valid", func(c *api.Config) { c.Staff = []api.Staff{{Actor: 0, Role: 1}} })
	change("Segment 8191", func(c *api.Config) { c.Segment = 8191 })
	change("Segment above Disk", func(c *api.Config) { c.Segment = 65537 })
	change("Disk 8191", func(c *api.Config) { c.Disk, c.Segment = 8191, 8191 })
	change("Disk above MaxDisk", func(c *api.Config) { c.Disk = api.MaxDisk + 1 })
	return all
}

func TestOpenConfigsThatMayNotBe(t *testing.T) {
	for what, c := range wrongConfigs() {
		for _, place := range places {
			d := newDisk(t, 65536)
			fails(t, what, c, place, d, api.EARG)
			if len(d.Names()) != 0 {
				t.Errorf("R3: %s: the disk has %v", what, d.Names())
			}
			d.Crash(0)
			fails(t, what+", and the disk is off", c, place, d, api.EARG)
		}
	}
}

func TestOpenDisksThatAreOff(t *testing.T) {
	for _, place := range places {
		_, d := standing(t, small(), place, many(2)...)
		d.Crash(0)
		fails(t, "off", small(), place, d, api.EOFF)
		d.Start()
		holds(t, "P15.1: on again", opened(t, small(), place, d), -1, eventsOf(t, small(), many(2)...)...)
	}
}

// TestOpenLogsThatAreBroken: the store's error at each node.
func TestOpenLogsThatAreBroken(t *testing.T) {
	c := small()
	for _, place := range places {
		_, d := standing(t, c, place, many(3)...)
		d.Turn("log.0", 30, 2)
		fails(t, "a turned bit in the log", c, place, d, api.EBROKEN)
		d.Turn("log.0", 30, 2)
		opened(t, c, place, d)

		d = newDisk(t, c.Disk)
		lay(t, d, "log", []byte{1, 2, 3})
		fails(t, "a log of what is no event", c, place, d, api.EBROKEN)
	}
}

// TestOpenKeysThatAreBroken: the keyring's error, at the tail alone.
func TestOpenKeysThatAreBroken(t *testing.T) {
	c := small()
	_, d := standing(t, c, node.Tail, many(3)...)
	bind(t, c, d, 1)
	d.Turn("keys.0", 14, 0)
	was := laid(d)
	for _, place := range []int{node.Head, node.Middle} {
		if n := opened(t, c, place, d); n.Length() != 3 {
			t.Errorf("P15.1: at %d over keys that are broken: %d events", place, n.Length())
		}
	}
	fails(t, "a turned bit in the keys", c, node.Tail, d, api.EBROKEN)
	if laid(d) != was {
		t.Error("R3: an Open that is refused has changed the disk")
	}
	d = newDisk(t, c.Disk)
	lay(t, d, "keys", []byte{1, 2, 3})
	fails(t, "keys of what is no head", c, node.Tail, d, api.EBROKEN)
	opened(t, c, node.Middle, d)
}

// TestOpenTheStoresErrorFirst: of a disk without room for one more file.
func TestOpenTheStoresErrorFirst(t *testing.T) {
	c := small()
	crowded := func(broken bool, logs ...string) func(place int, what string, want api.Errno) {
		return func(place int, what string, want api.Errno) {
			d := newDisk(t, c.Disk)
			for _, name := range logs {
				lay(t, d, name)
			}
			if broken {
				lay(t, d, logs[0], []byte{1})
			}
			for i := range 256 - len(logs) {
				if e := d.Create(fmt.Sprint("other", i)); e != api.OK {
					t.Fatal(e)
				}
			}
			if want == api.OK {
				opened(t, c, place, d)
				return
			}
			fails(t, what, c, place, d, want)
		}
	}
	for _, place := range places {
		crowded(false)(place, "no room for a log", api.ELIMIT)
		crowded(true, "keys")(place, "no room for a log, and the keys are broken", api.ELIMIT)
		crowded(true, "log")(place, "the log is broken, and there is no room for the keys", api.EBROKEN)
		crowded(false, "log", "keys")(place, "all is there", api.OK)
	}
	crowded(false, "log")(node.Tail, "no room for the keys", api.ELIMIT)
	crowded(false, "log")(node.Head, "no room for keys that it has not", api.OK)
	crowded(false, "log")(node.Middle, "no room for keys that it has not", api.OK)
}

// TestOpenOverALog: all events of the disk's log are there, and of the successor nothing is known.
func TestOpenOverALog(t *testing.T) {
	c := small()
	want := eventsOf(t, c, story()...)
	for _, place := range places {
		n, d := standing(t, c, place, story()...)
		holds(t, "P15.1: over a log", n, -1, want...)
		n.Take(place+1, have(3))
		n = opened(t, c, place, d)
		holds(t, "P15.1: opened once more", n, -1, want...)
		d.Crash(0)
		d.Start()
		holds(t, "P15.1: opened behind a crash", opened(t, c, place, d), -1, want...)
	}
}

// TestOpenHasTheKeysLeft: those that were bound ahead are not there any more.
func TestOpenHasTheKeysLeft(t *testing.T) {
	c := sized(2, 2)
	n, d := standing(t, c, node.Tail, many(2)...)
	for left := 4; left >= 0; left-- {
		if n.Keys() != left {
			t.Errorf("P15.5: Keys, opened again: %d, want %d", n.Keys(), left)
		}
		n.Head()
		n.Take(node.Middle, give(eventsOf(t, c, many(n.Length()+1)...)[n.Length()]))
		n = opened(t, c, node.Tail, d)
	}
	if n.Length() != 7 {
		t.Errorf("P15.3: behind five Gives: %d events", n.Length())
	}
}

// TestNextAtTheTail is always -1.
func TestNextAtTheTail(t *testing.T) {
	n, _ := standing(t, small(), node.Tail, many(3)...)
	for from := -1; from < 14; from++ {
		for length := range 5 {
			sends(t, "P15.3: a Have at the tail", n.Take(from, have(length)))
			if n.Next() != -1 {
				t.Fatalf("P15.1: Next at the tail behind Have %d from %d: %d", length, from, n.Next())
			}
		}
	}
	sends(t, "P15.4: Tick at the tail", n.Tick())
}
