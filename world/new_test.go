package world_test

import (
	"bytes"
	"math"
	"slices"
	"testing"

	"almoner/api"
	"almoner/lamport"
	"almoner/world"
)

// isNew asks for what is there behind New.
func isNew(t *testing.T, w *world.World, c api.Config, clients int) {
	t.Helper()
	isUp(t, "a new world", w, true, true, true)
	isBag(t, "a new world", w)
	isNoMessage(t, w, 1)
	for _, node := range nodes {
		isLog(t, "a new world", w, node)
		if d := w.Disk(node); d.Used() != 0 || d.Writes() != 0 || d.Off() {
			t.Errorf("P18.1: a new world's disk %d: %s", node, laid(d))
		}
	}
	for client := range clients {
		waits(t, "a new world", w, client)
		got(t, "a new world", w, client)
		sends(t, w, retry(client))
	}
	refuses(t, w, retry(clients), api.EARG)
	keys, _ := lamport.New(c.Width, c.Height, c.Seed)
	if !bytes.Equal(w.Public(), keys.Public()) {
		t.Errorf("P18.1: Public of width %d, height %d: %x, want %x", c.Width, c.Height, w.Public(), keys.Public())
	}
}

// isRefused asks for EARG, and no world beside it.
func isRefused(t *testing.T, what string, c api.Config, clients int) {
	t.Helper()
	if w, e := world.New(c, clients); w != nil || e != api.EARG {
		t.Errorf("P18.1: New with %s: %v, %d, want none, EARG", what, w, e)
	}
}

// TestClients: from 1 to MaxClients, and no others; each client's session has its number.
func TestClients(t *testing.T) {
	for clients := 1; clients <= api.MaxClients; clients++ {
		w := made(t, sized(1, 0), clients)
		isNew(t, w, sized(1, 0), clients)
		for client := range clients {
			sends(t, w, call(client, creates()), 2*client+1, 2*client+2)
			waits(t, "called", w, client, 1)
			isMessage(t, w, 2*client+1, 10+client, 0, request(with(creates(), id(client, 1))))
			isMessage(t, w, 2*client+2, 10+client, 2, ask(id(client, 1)))
		}
		refuses(t, w, call(clients, creates()), api.EARG)
		rounds(w, clients, 2*clients+10)
		for client := range clients {
			if l := w.Got(client); len(l) != 1 || l[0].Id != id(client, 1) {
				t.Errorf("T5: the client %d of %d has got %v", client, clients, l)
			}
		}
	}
	for _, clients := range []int{0, -1, api.MaxClients + 1, 26, 54, 64, math.MinInt, math.MaxInt, math.MinInt32, math.MaxInt32, 1 << 32, 1<<32 + 1, 1 << 63 >> 1} {
		isRefused(t, "clients that may not be", examples(), clients)
	}
}

// turned tells a Config with a part changed.
func turned(f func(c *api.Config)) api.Config {
	c := sized(1, 0)
	f(&c)
	return c
}

// TestConfigsThatMayBe: each part at its edges.
func TestConfigsThatMayBe(t *testing.T) {
	staff := make([]api.Staff, api.MaxStaff)
	for i := range staff {
		staff[i] = api.Staff{Actor: uint32(i) + 1, Role: uint32(i%5) + 1, Ward: uint32(i)}
	}
	staff[63].Actor = math.MaxUint32
	l := []api.Config{
		turned(func(c *api.Config) { c.Width = api.MaxWidth }),
		turned(func(c *api.Config) { c.Height = api.MaxHeight }),
		turned(func(c *api.Config) { c.Seed = make([]byte, 64) }),
		turned(func(c *api.Config) { c.Staff = nil }),
		turned(func(c *api.Config) { c.Staff = staff }),
		turned(func(c *api.Config) { c.Segment, c.Disk = 8192, 8192 }),
		turned(func(c *api.Config) { c.Disk = api.MaxDisk }),
		turned(func(c *api.Config) { c.Segment, c.Disk = api.MaxDisk, api.MaxDisk }),
		turned(func(c *api.Config) { c.Width, c.Height = 2, 3 }),
	}
	for _, c := range l {
		isNew(t, made(t, c, 2), c, 2)
	}
}

// TestConfigsThatMayNotBe: each part out of its range, alone, and with clients that may not be.
func TestConfigsThatMayNotBe(t *testing.T) {
	far := []int{math.MinInt, math.MaxInt, math.MinInt32, math.MaxInt32, 1 << 32, 1<<32 + 1}
	l := map[string][]api.Config{}
	number := func(what string, set func(c *api.Config, n int), edges ...int) {
		for _, n := range append(edges, far...) {
			l[what] = append(l[what], turned(func(c *api.Config) { set(c, n) }))
		}
	}
	number("a width", func(c *api.Config, n int) { c.Width = n }, 0, -1, api.MaxWidth+1)
	number("a height", func(c *api.Config, n int) { c.Height = n }, -1, api.MaxHeight+1)
	number("a segment", func(c *api.Config, n int) { c.Segment = n }, 0, -1, 16, 8191, 65537, api.MaxDisk)
	number("a disk", func(c *api.Config, n int) { c.Disk = n }, 0, -1, 1, 8191, api.MaxDisk+1)
	number("a segment and a disk", func(c *api.Config, n int) { c.Segment, c.Disk = n, n }, 8191, api.MaxDisk+1)
	for _, n := range []int{0, 65, 1000} {
		l["a seed"] = append(l["a seed"], turned(func(c *api.Config) { c.Seed = make([]byte, n) }))
	}
	for _, staff := range [][]api.Staff{
		{{Actor: 0, Role: 1}},
		{{Actor: 1, Role: 0}},
		{{Actor: 1, Role: 6}},
		{{Actor: 1, Role: math.MaxUint32}},
		{{Actor: 2, Role: 1}, {Actor: 1, Role: 1}},
		{{Actor: 1, Role: 1}, {Actor: 1, Role: 2}},
		make([]api.Staff, 65),
	} {
		l["a staff"] = append(l["a staff"], turned(func(c *api.Config) { c.Staff = staff }))
	}
	many := make([]api.Staff, api.MaxStaff+1)
	for i := range many {
		many[i] = api.Staff{Actor: uint32(i) + 1, Role: 1}
	}
	l["a staff"] = append(l["a staff"], turned(func(c *api.Config) { c.Staff = many }), api.Config{})
	for what, configs := range l {
		for _, c := range configs {
			for _, clients := range []int{1, 16, 0, 17} {
				isRefused(t, what+" that may not be", c, clients)
			}
		}
	}
}

// TestPublicStays: it is the tail's, whatever has become of that.
func TestPublicStays(t *testing.T) {
	for height := range 4 {
		c := sized(4, height)
		w := made(t, c, 1)
		public := w.Public()
		if !bytes.Equal(made(t, c, 2).Public(), public) {
			t.Error("R5: two worlds of one Config tell two Publics")
		}
		for _, s := range []world.Step{call(0, creates()), sign(), crash(2, 0), crash(0, 0), restart(2, 0), sign(), arm(2, 1, 5)} {
			w.Step(s)
			if !bytes.Equal(w.Public(), public) {
				t.Errorf("P18.1: behind %s Public is %x, and was %x", tellStep(s), w.Public(), public)
			}
		}
	}
	other := sized(4, 1)
	other.Seed = []byte{2}
	if slices.Equal(made(t, other, 1).Public(), made(t, sized(4, 1), 1).Public()) {
		t.Error("P18.1: two seeds have one Public")
	}
}
