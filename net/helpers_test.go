package net_test

import (
	"bytes"
	"math"
	"slices"
	"testing"

	"almoner/api"
	"almoner/net"
)

// farNumbers are those that are no place and no packet of any net of these tests.
var farNumbers = []int{math.MinInt, math.MinInt + 1, math.MinInt32, -(1 << 32), -(1 << 32) + 1, -64, -2, -1, 1 << 31, 1 << 32, 1<<32 + 1, 1 << 62, math.MaxInt - 1, math.MaxInt}

func made(t testing.TB, places int) *net.Net {
	t.Helper()
	n, e := net.New(places)
	if n == nil || e != api.OK {
		t.Fatalf("P14.1: New(%d): %v, %d", places, n, e)
	}
	return n
}

// packet tells one by its parts.
func packet(number, from, to int, b ...byte) net.Packet {
	return net.Packet{Number: number, From: from, To: to, Bytes: b}
}

func same(a, b net.Packet) bool {
	return a.Number == b.Number && a.From == b.From && a.To == b.To && bytes.Equal(a.Bytes, b.Bytes)
}

// sends asks for the number of what is sent.
func sends(t testing.TB, n *net.Net, from, to, want int, b ...byte) {
	t.Helper()
	if number, e := n.Send(from, to, b); number != want || e != api.OK {
		t.Errorf("P14.2: Send(%d, %d, %d bytes): %d, %d, want %d", from, to, len(b), number, e, want)
	}
}

// copies asks for the number of a copy.
func copies(t testing.TB, n *net.Net, number, want int) {
	t.Helper()
	if got, e := n.Copy(number); got != want || e != api.OK {
		t.Errorf("P14.2: Copy(%d): %d, %d, want %d", number, got, e, want)
	}
}

// delivers asks for a packet.
func delivers(t testing.TB, n *net.Net, want net.Packet) {
	t.Helper()
	if got, e := n.Deliver(want.Number); !same(got, want) || e != api.OK {
		t.Errorf("P14.3: Deliver(%d): %v, %d, want %v", want.Number, got, e, want)
	}
}

func drops(t testing.TB, n *net.Net, number int) {
	t.Helper()
	if e := n.Drop(number); e != api.OK {
		t.Errorf("P14.3: Drop(%d): %d", number, e)
	}
}

// loses asks how many are lost to a place.
func loses(t testing.TB, n *net.Net, to, want int) {
	t.Helper()
	if got := n.Lose(to); got != want {
		t.Errorf("P14.3: Lose(%d): %d, want %d", to, got, want)
	}
}

// waits asks for the packets under way.
func waits(t testing.TB, what string, n *net.Net, want ...net.Packet) {
	t.Helper()
	if got := n.Waiting(); !slices.EqualFunc(got, want, same) {
		t.Errorf("P14.4: %s: under way are %v, want %v", what, got, want)
	}
}

func counted(n *net.Net) [4]int {
	sent, copied, delivered, lost := n.Count()
	return [4]int{sent, copied, delivered, lost}
}

// counts asks for what was sent, copied, delivered and lost.
func counts(t testing.TB, what string, n *net.Net, want ...int) {
	t.Helper()
	if got := counted(n); !slices.Equal(got[:], want) {
		t.Errorf("P14.4: %s: Count: %v, want %v", what, got, want)
	}
}

// unchanged asks that a call leaves all that can be seen as it was.
func unchanged(t testing.TB, what string, n *net.Net, call func()) {
	t.Helper()
	packets, count := n.Waiting(), counted(n)
	call()
	waits(t, "R3: "+what, n, packets...)
	counts(t, "R3: "+what, n, count[:]...)
}

// refusesSend asks for EARG, no number, and a net that is as it was.
func refusesSend(t testing.TB, n *net.Net, from, to int, b ...byte) {
	t.Helper()
	unchanged(t, "a Send that is refused", n, func() {
		if number, e := n.Send(from, to, b); number != 0 || e != api.EARG {
			t.Errorf("P14.2: Send(%d, %d): %d, %d, want 0, EARG", from, to, number, e)
		}
	})
}

// hasNone asks for ENONE of all calls that name a packet, nothing beside it, and a net that is as it was.
func hasNone(t testing.TB, what string, n *net.Net, number int) {
	t.Helper()
	unchanged(t, what, n, func() {
		if got, e := n.Copy(number); got != 0 || e != api.ENONE {
			t.Errorf("P14.2: %s: Copy(%d): %d, %d, want 0, ENONE", what, number, got, e)
		}
		if p, e := n.Deliver(number); !same(p, net.Packet{}) || e != api.ENONE {
			t.Errorf("P14.3: %s: Deliver(%d): %v, %d, want zeros, ENONE", what, number, p, e)
		}
		if e := n.Drop(number); e != api.ENONE {
			t.Errorf("P14.3: %s: Drop(%d): %d, want ENONE", what, number, e)
		}
	})
}
