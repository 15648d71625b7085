package net_test

import (
	"bytes"
	"testing"

	"almoner/api"
	"almoner/net"
)

func TestExamples(t *testing.T) {
	for _, places := range []int{0, 65} {
		if n, e := net.New(places); n != nil || e != api.EARG {
			t.Errorf("New(%d): %v, %d, want none, EARG", places, n, e)
		}
	}
	n := made(t, 3)
	refusesSend(t, n, 0, 3)
	refusesSend(t, n, -1, 0)
	sends(t, n, 0, 1, 1, 5)
	sends(t, n, 2, 0, 2)
	copies(t, n, 1, 3)
	hasNone(t, "the examples", n, 9)
	waits(t, "the examples", n, packet(1, 0, 1, 5), packet(2, 2, 0), packet(3, 0, 1, 5))
	delivers(t, n, packet(3, 0, 1, 5))
	hasNone(t, "the examples", n, 3)
	drops(t, n, 2)
	hasNone(t, "the examples", n, 2)
	sends(t, n, 1, 1, 4, 6)
	loses(t, n, 1, 2)
	loses(t, n, 7, 0)
	waits(t, "the examples", n)
	counts(t, "the examples", n, 3, 1, 1, 3)
}

func TestNew(t *testing.T) {
	for places := -3; places <= 130; places++ {
		n, e := net.New(places)
		if places < 1 || places > 64 {
			if n != nil || e != api.EARG {
				t.Errorf("P14.1: New(%d): %v, %d, want none, EARG", places, n, e)
			}
			continue
		}
		if n == nil || e != api.OK {
			t.Fatalf("P14.1: New(%d): %v, %d", places, n, e)
		}
		waits(t, "a new net", n)
		counts(t, "a new net", n, 0, 0, 0, 0)
		hasNone(t, "a new net", n, 1)
		sends(t, n, 0, places-1, 1)
		refusesSend(t, n, 0, places)
		refusesSend(t, n, places, 0)
	}
	for _, places := range farNumbers {
		if n, e := net.New(places); n != nil || e != api.EARG {
			t.Errorf("P14.1: New(%d): %v, %d, want none, EARG", places, n, e)
		}
	}
}

// TestSendBetweenAllPlaces: from each place to each, itself too.
func TestSendBetweenAllPlaces(t *testing.T) {
	for _, places := range []int{1, 2, 3, 64} {
		n := made(t, places)
		var want []net.Packet
		for from := range places {
			for to := range places {
				p := packet(len(want)+1, from, to, byte(from), byte(to))
				sends(t, n, from, to, p.Number, p.Bytes...)
				want = append(want, p)
			}
		}
		waits(t, "between all places", n, want...)
		counts(t, "between all places", n, places*places, 0, 0, 0)
		for _, p := range want {
			delivers(t, n, p)
		}
		counts(t, "between all places", n, places*places, 0, places*places, 0)
	}
}

// TestSendFromAndToNoPlace: whichever of the two it is, and both.
func TestSendFromAndToNoPlace(t *testing.T) {
	for _, places := range []int{1, 3, 64} {
		n := made(t, places)
		sends(t, n, 0, places-1, 1, 9)
		none := append([]int{places, places + 1, 2 * places, 65, 256}, farNumbers...)
		for _, bad := range none {
			for _, good := range []int{0, places - 1} {
				refusesSend(t, n, bad, good, 1, 2)
				refusesSend(t, n, good, bad, 1, 2)
			}
			refusesSend(t, n, bad, bad)
			refusesSend(t, n, bad, -1)
		}
		sends(t, n, places-1, 0, 2)
	}
}

// TestBytes: none, some, all values, and many.
func TestBytes(t *testing.T) {
	n := made(t, 2)
	values := make([]byte, 256)
	for i := range values {
		values[i] = byte(i)
	}
	many := bytes.Repeat([]byte{1, 2, 3, 0}, 1<<20)
	var want []net.Packet
	for i, b := range [][]byte{nil, {}, {0}, {255}, values, many, {0, 0, 0}} {
		p := packet(i+1, i%2, 1-i%2, b...)
		sends(t, n, p.From, p.To, p.Number, b...)
		want = append(want, p)
	}
	waits(t, "bytes", n, want...)
	for i, p := range want {
		c := p
		c.Number = len(want) + i + 1
		copies(t, n, p.Number, c.Number)
		delivers(t, n, c)
		delivers(t, n, p)
	}
}

// TestNumbers: from 1 on, for Send and Copy alike, and none again, whatever went and whatever was refused.
func TestNumbers(t *testing.T) {
	n := made(t, 3)
	next := 1
	both := func(from int) {
		t.Helper()
		sends(t, n, 0, 1, next)
		copies(t, n, next, next+1)
		sends(t, n, 1, from, next+2)
		copies(t, n, next+1, next+3)
		next += 4
	}
	both(0)
	delivers(t, n, packet(4, 0, 1)) // the last one
	both(1)
	delivers(t, n, packet(1, 0, 1)) // the first one
	both(2)
	drops(t, n, next-1)
	both(0)
	loses(t, n, 1, 10)
	both(1)
	for to := range 3 { // all of them
		n.Lose(to)
	}
	waits(t, "all are lost", n)
	both(2)
	refusesSend(t, n, 0, 3)
	both(0)
	hasNone(t, "refused between", n, next)
	both(1)
	refusesSend(t, n, -1, 0)
	hasNone(t, "refused between", n, 0)
	hasNone(t, "refused between", n, 1)
	both(2)
	counts(t, "two of each four are copies", n, next/2, next/2, 2, 1+10+7)
}

// TestNoSuchPacket: delivered, lost by either call, never there, and what is no number.
func TestNoSuchPacket(t *testing.T) {
	n := made(t, 3)
	for i := range 6 {
		sends(t, n, 0, i%3, i+1, byte(i))
	}
	delivers(t, n, packet(2, 0, 1, 1))
	drops(t, n, 3)
	loses(t, n, 0, 2) // 1 and 4
	gone := append([]int{0, 1, 2, 3, 4, 7, 8, 100, 4097}, farNumbers...)
	for _, number := range gone {
		hasNone(t, "no such packet", n, number)
	}
	waits(t, "no such packet", n, packet(5, 0, 1, 4), packet(6, 0, 2, 5))
	copies(t, n, 5, 7)
	delivers(t, n, packet(6, 0, 2, 5))
	drops(t, n, 5)
	delivers(t, n, packet(7, 0, 1, 4))
	for number := -1; number <= 9; number++ {
		hasNone(t, "none is left", n, number)
	}
	counts(t, "none is left", n, 6, 1, 3, 4)
}

// TestCopies: of a copy, of one whose first one is gone, and many of one.
func TestCopies(t *testing.T) {
	n := made(t, 4)
	sends(t, n, 3, 2, 1, 7, 8)
	copies(t, n, 1, 2)
	copies(t, n, 2, 3)
	delivers(t, n, packet(1, 3, 2, 7, 8))
	copies(t, n, 3, 4)
	drops(t, n, 3)
	copies(t, n, 2, 5)
	delivers(t, n, packet(2, 3, 2, 7, 8))
	waits(t, "copies of copies", n, packet(4, 3, 2, 7, 8), packet(5, 3, 2, 7, 8))
	counts(t, "copies of copies", n, 1, 4, 2, 1)
	for i := range 100 {
		copies(t, n, 5, 6+i)
	}
	loses(t, n, 3, 0)
	loses(t, n, 2, 102)
	counts(t, "copies are lost", n, 1, 104, 2, 103)
	sends(t, n, 1, 1, 106)
	copies(t, n, 106, 107)
	delivers(t, n, packet(107, 1, 1))
	delivers(t, n, packet(106, 1, 1))
}

// TestLose: to a place with none, one and many, to what is no place; of those from it none is lost.
func TestLose(t *testing.T) {
	n := made(t, 4)
	for to := range 4 {
		loses(t, n, to, 0)
	}
	sends(t, n, 1, 2, 1)
	for range 50 {
		n.Send(2, 3, []byte{1})
		n.Send(3, 0, []byte{2})
		n.Send(0, 0, []byte{3})
	}
	was := n.Waiting()
	for _, to := range append([]int{1, 4, 5, 64, 65}, farNumbers...) {
		loses(t, n, to, 0)
	}
	waits(t, "none was lost", n, was...)
	counts(t, "none was lost", n, 151, 0, 0, 0)
	loses(t, n, 2, 1)
	hasNone(t, "lost", n, 1)
	waits(t, "one is lost", n, was[1:]...)
	counts(t, "one is lost", n, 151, 0, 0, 1)
	loses(t, n, 0, 100)
	for _, p := range n.Waiting() {
		if p.To != 3 {
			t.Errorf("P14.3: %v is under way behind Lose(0)", p)
		}
	}
	loses(t, n, 0, 0)
	loses(t, n, 3, 50)
	waits(t, "all are lost", n)
	counts(t, "all are lost", n, 151, 0, 0, 151)
}

// TestWaitingByNumbers: rising, however many there are, and whatever has gone.
func TestWaitingByNumbers(t *testing.T) {
	n := made(t, 64)
	var want []net.Packet
	for i := range 3000 {
		from, to := i*5%64, i*11%64
		n.Send(from, to, []byte{byte(i), byte(i >> 8)})
		if i%7 < 3 {
			n.Deliver(i + 1)
		} else {
			want = append(want, packet(i+1, from, to, byte(i), byte(i>>8)))
		}
	}
	waits(t, "many", n, want...)
	for i := len(want) - 1; i >= 5; i-- {
		drops(t, n, want[i].Number)
	}
	waits(t, "the first ones", n, want[:5]...)
	waits(t, "asked again", n, want[:5]...)
	sends(t, n, 0, 0, 3001)
	waits(t, "the first ones and a new one", n, append(want[:5:5], packet(3001, 0, 0))...)
}

// TestCountBehindEachCall: a refused one, too.
func TestCountBehindEachCall(t *testing.T) {
	n := made(t, 2)
	steps := []struct {
		what string
		call func()
		want []int
	}{
		{"Send", func() { n.Send(0, 1, []byte{1}) }, []int{1, 0, 0, 0}},
		{"Send that is refused", func() { n.Send(0, 2, nil) }, []int{1, 0, 0, 0}},
		{"Copy", func() { n.Copy(1) }, []int{1, 1, 0, 0}},
		{"Copy that is refused", func() { n.Copy(3) }, []int{1, 1, 0, 0}},
		{"Deliver", func() { n.Deliver(1) }, []int{1, 1, 1, 0}},
		{"Deliver that is refused", func() { n.Deliver(1) }, []int{1, 1, 1, 0}},
		{"Drop that is refused", func() { n.Drop(1) }, []int{1, 1, 1, 0}},
		{"Copy of what is gone", func() { n.Copy(1) }, []int{1, 1, 1, 0}},
		{"Drop", func() { n.Drop(2) }, []int{1, 1, 1, 1}},
		{"Deliver of what is lost", func() { n.Deliver(2) }, []int{1, 1, 1, 1}},
		{"Lose of none", func() { n.Lose(1) }, []int{1, 1, 1, 1}},
		{"Send", func() { n.Send(0, 0, nil) }, []int{2, 1, 1, 1}},
		{"Copy", func() { n.Copy(3) }, []int{2, 2, 1, 1}},
		{"Lose of another place", func() { n.Lose(1) }, []int{2, 2, 1, 1}},
		{"Lose of no place", func() { n.Lose(2) }, []int{2, 2, 1, 1}},
		{"Waiting", func() { n.Waiting() }, []int{2, 2, 1, 1}},
		{"Count", func() { n.Count() }, []int{2, 2, 1, 1}},
		{"Lose of two", func() { n.Lose(0) }, []int{2, 2, 1, 3}},
		{"Lose of them again", func() { n.Lose(0) }, []int{2, 2, 1, 3}},
	}
	for _, s := range steps {
		s.call()
		counts(t, s.what, n, s.want...)
	}
}
