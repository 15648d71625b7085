package disk_test

import (
	"math"
	"math/rand"
	"strings"
	"testing"
)

// TestAllShortScripts goes through all scripts of five calls out of some, on a small disk.
func TestAllShortScripts(t *testing.T) {
	calls := []func(x *pair){
		func(x *pair) { x.create("b") },
		func(x *pair) { x.append("a", []byte{1, 2}) },
		func(x *pair) { x.append("b", []byte{3, 4, 5}) },
		func(x *pair) { x.sync("a") },
		func(x *pair) { x.cut("a", 1) },
		func(x *pair) { x.cut("b", 2) },
		func(x *pair) { x.remove("a") },
		func(x *pair) { x.arm(1, 1) },
		func(x *pair) { x.arm(2, 0) },
		func(x *pair) { x.crash(3) },
		func(x *pair) { x.start() },
	}
	var choose func(script []int)
	choose = func(script []int) {
		if len(script) == 5 {
			x := newPair(t, 7)
			x.create("a")
			x.append("a", []byte{9})
			for _, i := range script {
				calls[i](x)
			}
			x.look()
			x.start()
			x.look()
			return
		}
		for i := range calls {
			choose(append(script, i))
		}
	}
	choose(nil)
}

// odd tells a number that is often at an edge.
func odd(r *rand.Rand, edge int) int {
	switch r.Intn(12) {
	case 0:
		return -1 - r.Intn(2)
	case 1:
		return []int{math.MinInt, math.MaxInt, math.MaxInt - edge, 1 << 32, -(1 << 32)}[r.Intn(5)]
	case 2:
		return edge + 1
	case 3, 4:
		return edge
	}
	return r.Intn(edge + 1)
}

// anyName tells a name, mostly of a few, so that they are met again.
func anyName(r *rand.Rand) string {
	switch r.Intn(30) {
	case 0:
		return ""
	case 1:
		return strings.Repeat("y", 63+r.Intn(3))
	case 2:
		return string([]byte{byte(r.Intn(256)), byte(r.Intn(3))})
	}
	return []string{"a", "b", "c", "d", "e"}[r.Intn(5)]
}

// anyCall does one call, with whatever arguments.
func anyCall(x *pair, r *rand.Rand) {
	name := anyName(r)
	size := len(x.p.files[name])
	switch r.Intn(24) {
	case 0, 1, 2:
		x.create(name)
	case 3:
		x.sync(name)
	case 4:
		x.cut(name, odd(r, size))
	case 5:
		if r.Intn(2) == 0 {
			x.remove(name)
		}
	case 6:
		x.read(name, odd(r, size), odd(r, size))
	case 7:
		x.turn(name, odd(r, size), uint(odd(r, 8)))
	case 8:
		x.arm(odd(r, 4), odd(r, 6))
	case 9:
		x.fill(r.Intn(3) == 0)
	case 10:
		if r.Intn(2) == 0 {
			x.crash(odd(r, x.p.pending()))
		}
	case 11, 12, 13:
		x.start()
	case 14:
		b := make([]byte, max(x.p.limit-x.p.used(), 0)+r.Intn(2))
		r.Read(b)
		if r.Intn(3) == 0 {
			x.append(name, b)
		}
	default:
		b := make([]byte, r.Intn(7))
		r.Read(b)
		x.append(name, b)
	}
}

// TestAnyCallsInAnyOrder holds both disks against each other, behind every call.
func TestAnyCallsInAnyOrder(t *testing.T) {
	r := rand.New(rand.NewSource(808))
	for i := range 500 {
		x := newPair(t, []int{1, 2, 5, 20, 60, 300, 2000}[i%7])
		for range 120 {
			anyCall(x, r)
			x.look()
		}
		x.start()
		x.look()
	}
}

// TestAFullDiskOfSmallWrites asks for the order of as many writes as there may be, and that they end in time.
func TestAFullDiskOfSmallWrites(t *testing.T) {
	d := made(t, 1<<20, "a", "b", "c")
	for i := range 1 << 19 {
		d.Append("a", []byte{byte(i)})
		d.Append("b", []byte{byte(i >> 8)})
		d.Sync("c")
	}
	counts(t, "P8.3: all is used", d, 1<<20, 1<<20, 1<<20)
	for n := 1<<19 - 1; n >= 1<<18; n-- {
		d.Cut("b", n)
	}
	counts(t, "P8.2: half of b is gone", d, 1<<19+1<<18, 1<<19+1<<18, 1<<20)
	d.Crash(1<<19 + 100)
	d.Start()
	for name, want := range map[string]int{"a": 1<<18 + 100, "b": 1 << 18, "c": 0} {
		n, _ := d.Size(name)
		s, _ := d.Synced(name)
		if n != want || s != want {
			t.Errorf("P8.7: %s has %d bytes, %d safe, want %d", name, n, s, want)
		}
	}
}
