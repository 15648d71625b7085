package net_test

import (
	"bytes"
	"runtime"
	"testing"

	"almoner/api"
	"almoner/net"
)

// scribble writes over a list and its spare room.
func scribble(b []byte) {
	b = b[:cap(b)]
	for i := range b {
		b[i] = 77
	}
}

// spoil writes over all that a list of packets tells.
func spoil(l []net.Packet) {
	l = l[:cap(l)]
	for i := range l {
		scribble(l[i].Bytes)
		l[i] = packet(99, 99, 99, 99)
	}
}

// TestWhatIsHandedInIsNotChangedAndNotKept sends lists with spare room, and then writes over them; refused ones, too.
func TestWhatIsHandedInIsNotChangedAndNotKept(t *testing.T) {
	n := made(t, 2)
	for _, length := range []int{0, 1, 3, 20} {
		for _, to := range []int{1, 2} {
			list := bytes.Repeat([]byte{4}, 40)
			b := list[:length]
			_, e := n.Send(0, to, b)
			if (e == api.OK) != (to == 1) {
				t.Errorf("P14.2: Send to %d: %d", to, e)
			}
			if !bytes.Equal(list, bytes.Repeat([]byte{4}, 40)) {
				t.Errorf("R4: Send has changed its list: %v", list)
			}
			scribble(b)
		}
	}
	four := bytes.Repeat([]byte{4}, 20)
	waits(t, "R4: what was handed in", n, packet(1, 0, 1), packet(2, 0, 1, four[:1]...), packet(3, 0, 1, four[:3]...), packet(4, 0, 1, four...))
	delivers(t, n, packet(3, 0, 1, 4, 4, 4))
}

// TestAListStaysWhatItIs: of what was handed in nothing changes later, whatever is done to what is told.
func TestAListStaysWhatItIs(t *testing.T) {
	n := made(t, 2)
	list := []byte{1, 2, 3}
	n.Send(0, 1, list)
	n.Copy(1)
	spoil(n.Waiting())
	p, _ := n.Deliver(1)
	scribble(p.Bytes)
	p, _ = n.Deliver(2)
	scribble(p.Bytes)
	if !bytes.Equal(list, []byte{1, 2, 3}) {
		t.Errorf("R4: the list that was handed in: %v", list)
	}
}

// TestWhatIsToldIsNew writes over what Waiting and Deliver tell.
func TestWhatIsToldIsNew(t *testing.T) {
	n := made(t, 3)
	sends(t, n, 0, 1, 1, 1, 2, 3)
	sends(t, n, 2, 0, 2)
	copies(t, n, 1, 3)
	copies(t, n, 3, 4)
	want := n.Waiting()
	first := n.Waiting()
	again := n.Waiting()
	spoil(first)
	waits(t, "R4: Waiting tells new memory", n, want...)
	for i := range want {
		if !same(again[i], want[i]) {
			t.Errorf("R4: two answers share memory: %v", again[i])
		}
	}
	p, _ := n.Deliver(3)
	scribble(p.Bytes)
	waits(t, "R4: a copy and its first one are apart", n, want[0], want[1], want[3])
	for i := range want {
		if !same(again[i], want[i]) {
			t.Errorf("R4: what was told ahead of a Deliver: %v", again[i])
		}
	}
	copies(t, n, 1, 5)
	p, _ = n.Deliver(1)
	scribble(p.Bytes)
	delivers(t, n, packet(4, 0, 1, 1, 2, 3))
	delivers(t, n, packet(5, 0, 1, 1, 2, 3))
}

// TestNoTwoListsShare: of one Waiting, a packet and its copies have bytes of their own, the spare room too.
func TestNoTwoListsShare(t *testing.T) {
	for _, length := range []int{1, 2, 5, 8, 33} {
		n := made(t, 2)
		n.Send(0, 1, make([]byte, length))
		for i := range 20 {
			n.Copy(1 + i/2)
			n.Send(1, 0, make([]byte, length))
		}
		l := n.Waiting()
		for i := range l {
			all := l[i].Bytes[:cap(l[i].Bytes)]
			for k := range all {
				all[k] = byte(i + 1)
			}
		}
		for i := range l {
			all := l[i].Bytes[:cap(l[i].Bytes)]
			if !bytes.Equal(all, bytes.Repeat([]byte{byte(i + 1)}, len(all))) {
				t.Fatalf("R4: two lists of one answer share memory: %v", all)
			}
		}
	}
}

// TestWhatWasToldStays: answers are not changed by what comes later.
func TestWhatWasToldStays(t *testing.T) {
	n := made(t, 2)
	sends(t, n, 0, 1, 1, 1, 2)
	sends(t, n, 0, 1, 2, 3)
	l := n.Waiting()
	p, _ := n.Deliver(1)
	sends(t, n, 0, 1, 3, 9, 9)
	copies(t, n, 2, 4)
	loses(t, n, 1, 3)
	sends(t, n, 0, 1, 5, 8, 8)
	if len(l) != 2 || !same(l[0], packet(1, 0, 1, 1, 2)) || !same(l[1], packet(2, 0, 1, 3)) || !same(p, l[0]) {
		t.Errorf("R4: what was told has changed: %v, %v", l, p)
	}
}

// TestTwoNetsHaveNothingInCommon: one goes through all, the other stays what it was.
func TestTwoNetsHaveNothingInCommon(t *testing.T) {
	n, o := made(t, 2), made(t, 3)
	list := []byte{1}
	sends(t, n, 0, 1, 1, list...)
	sends(t, o, 0, 2, 1, list...)
	copies(t, o, 1, 2)
	waits(t, "R5: another net", n, packet(1, 0, 1, 1))
	counts(t, "R5: another net", n, 1, 0, 0, 0)
	hasNone(t, "R5: another net's packet", n, 2)
	refusesSend(t, n, 0, 2)
	delivers(t, n, packet(1, 0, 1, 1))
	n.Lose(2)
	waits(t, "R5: another net", o, packet(1, 0, 2, 1), packet(2, 0, 2, 1))
	sends(t, n, 1, 1, 2)
	loses(t, n, 1, 1)
	counts(t, "R5: another net", o, 1, 1, 0, 0)
	drops(t, o, 1)
	sends(t, o, 0, 0, 3)
	counts(t, "R5: another net", n, 2, 0, 1, 1)
}

// heap tells how many bytes are in use.
func heap() uint64 {
	var m runtime.MemStats
	runtime.GC()
	runtime.ReadMemStats(&m)
	return m.HeapAlloc
}

// TestLongListsAreNotKept: of bytes that are a piece of a longer list the piece alone is kept, and of packets that are gone nothing.
func TestLongListsAreNotKept(t *testing.T) {
	n := made(t, 2)
	was := heap()
	for i := range 50 {
		n.Send(0, 0, make([]byte, 1<<20)[:i])
		n.Send(0, 1, make([]byte, 1<<20))
		if i%2 == 0 {
			n.Deliver(2*i + 2)
		}
	}
	n.Drop(4)
	n.Lose(1)
	if now := heap(); now > was+4<<20 {
		t.Errorf("language rule 8: %d bytes are kept of 100 lists of 2^20", now-was)
	}
	runtime.KeepAlive(n)
}

// TestALongPacketIsOftenCopied: what was given, once, is there once; so that no script within the document's bounds asks for more room than there is.
func TestALongPacketIsOftenCopied(t *testing.T) {
	n := made(t, 2)
	was := heap()
	sends(t, n, 0, 1, 1, make([]byte, 1<<20)...)
	for i := range 2000 {
		copies(t, n, i+1, i+2)
	}
	if now := heap(); now > was+8<<20 {
		t.Errorf("language rule 8: %d bytes are kept of one list of 2^20 and its copies", now-was)
	}
	loses(t, n, 1, 2001)
}
