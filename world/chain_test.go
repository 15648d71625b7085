package world_test

import (
	"math"
	"testing"

	"almoner/api"
	"almoner/wire"
	"almoner/world"
)

// TestOrderOfTheNodesErrors: EARG of a node that is none, ahead of all else; then EOFF, ahead of what the disk answers.
func TestOrderOfTheNodesErrors(t *testing.T) {
	w := standing(t, sized(1, 0), 1, creates())
	for _, off := range []bool{false, true} {
		if off {
			for _, node := range nodes {
				sends(t, w, crash(node, 0))
			}
		}
		for _, node := range noNodes {
			refuses(t, w, tick(node), api.EARG)
			refuses(t, w, arm(node, 1, 1), api.EARG)
			refuses(t, w, arm(node, 0, -1), api.EARG)
			refuses(t, w, crash(node, 0), api.EARG)
			refuses(t, w, crash(node, -1), api.EARG)
			refuses(t, w, restart(node, 0), api.EARG)
			refuses(t, w, fill(node, 0), api.EARG)
			refuses(t, w, fill(node, 1), api.EARG)
		}
	}
	for _, node := range nodes {
		refuses(t, w, tick(node), api.EOFF)
		refuses(t, w, arm(node, 1, 1), api.EOFF)
		refuses(t, w, arm(node, 0, 1), api.EOFF)
		refuses(t, w, arm(node, 1, -1), api.EOFF)
		refuses(t, w, crash(node, 0), api.EOFF)
		refuses(t, w, crash(node, -1), api.EOFF)
		sends(t, w, restart(node, 0))
		refuses(t, w, restart(node, 0), api.EARG)
		refuses(t, w, restart(node, math.MinInt), api.EARG)
	}
}

// TestTick: each node's own; the tail's sends nothing.
func TestTick(t *testing.T) {
	w := made(t, sized(1, 0), 1)
	sends(t, w, tick(2))
	sends(t, w, tick(1), 1)
	sends(t, w, tick(0), 2)
	sends(t, w, tick(0), 3)
	isMessage(t, w, 1, 1, 2, what())
	isMessage(t, w, 2, 0, 1, what())
	isMessage(t, w, 3, 0, 1, what())
	sends(t, w, deliver(2), 4)
	sends(t, w, deliver(4))
	sends(t, w, tick(0)) // it knows its successor, and has nothing to give
	sends(t, w, call(0, creates()), 5, 6)
	sends(t, w, deliver(5))
	sends(t, w, tick(0), 7)
	isMessage(t, w, 7, 0, 1, give(w.Log(0)[0]))
	sends(t, w, tick(2))
}

// TestArmRefused: what Arm answers, with a disk that is on.
func TestArmRefused(t *testing.T) {
	w := made(t, sized(1, 0), 1)
	for _, node := range nodes {
		for _, write := range []int{0, -1, math.MinInt} {
			refuses(t, w, arm(node, write, 1), api.EARG)
		}
		for _, bytes := range []int{-1, math.MinInt} {
			refuses(t, w, arm(node, 1, bytes), api.EARG)
		}
		sends(t, w, arm(node, math.MaxInt, math.MaxInt))
		sends(t, w, arm(node, 1, 0))
	}
}

// TestArmedWrite: the node goes off in the step in which it comes, and does not send; the others go on.
func TestArmedWrite(t *testing.T) {
	frame := frameOf(t, sized(1, 0), creates())
	for _, node := range nodes {
		for write := 1; write <= 3; write++ {
			for _, torn := range []int{0, 1, 12, frame - 1, frame, frame + 1, math.MaxInt} {
				w := made(t, sized(1, 0), 1)
				sends(t, w, arm(node, write, torn))
				for range 3 {
					w.Step(call(0, creates()))
				}
				rounds(w, 1, 16)
				var all []uint32
				for n := range write - 1 {
					all = append(all, uint32(n+1))
				}
				isLog(t, "an armed write", w, node, all...)
				for other := range node {
					isLog(t, "ahead of an armed write", w, other, 1, 2, 3)
				}
				isUp(t, "an armed write", w, node != 0, node != 1, node != 2)
				refuses(t, w, tick(node), api.EOFF)
				sends(t, w, restart(node, torn))
				if torn >= frame {
					all = append(all, uint32(write))
				}
				isLog(t, "restarted behind an armed write", w, node, all...)
				rounds(w, 1, 20)
				for _, each := range nodes {
					isLog(t, "all is well again", w, each, 1, 2, 3)
				}
				waits(t, "all is well again", w, 0)
			}
		}
	}
}

// frameOf tells how many bytes a log has with the event of the first request of the client 0.
func frameOf(t *testing.T, c api.Config, r api.Request) int {
	t.Helper()
	w := made(t, c, 1)
	sends(t, w, call(0, r), 1, 2)
	sends(t, w, deliver(1))
	return w.Disk(0).Used()
}

// TestAnArmedWriteIsNotSent: neither what the node was about to answer, nor anything else of that step.
func TestAnArmedWriteIsNotSent(t *testing.T) {
	w := made(t, sized(1, 0), 1)
	sends(t, w, call(0, creates()), 1, 2)
	sends(t, w, deliver(1))
	sends(t, w, tick(0), 3)
	sends(t, w, deliver(3), 4)
	sends(t, w, deliver(4), 5) // Give
	sends(t, w, arm(1, 1, 1<<20))
	sends(t, w, deliver(5)) // no Have
	isUp(t, "an armed write", w, true, false, true)
	isBag(t, "an armed write", w, 2)
	sends(t, w, restart(1, 1<<20))
	isLog(t, "all of it stays", w, 1, 1)

	w = made(t, sized(1, 0), 1)
	sends(t, w, call(0, creates()), 1, 2)
	sends(t, w, arm(0, 1, 3))
	sends(t, w, deliver(1)) // no Busy
	isUp(t, "an armed write", w, false, true, true)
	isBag(t, "an armed write", w, 2)
}

// TestArmedWriteOnAFullDisk: what has no room is no write.
func TestArmedWriteOnAFullDisk(t *testing.T) {
	w := made(t, sized(1, 0), 1)
	sends(t, w, arm(0, 1, 0))
	sends(t, w, fill(0, 1))
	sends(t, w, call(0, creates()), 1, 2)
	sends(t, w, deliver(1), 3)
	isUp(t, "full and armed", w, true, true, true)
	sends(t, w, fill(0, 0))
	sends(t, w, retry(0), 4, 5)
	sends(t, w, deliver(4))
	isUp(t, "armed", w, false, true, true)
}

// TestArmAgain: a new one takes the place of the one ahead; so does a crash.
func TestArmAgain(t *testing.T) {
	w := made(t, sized(1, 0), 1)
	sends(t, w, arm(0, 1, 0))
	sends(t, w, arm(0, 2, 0))
	sends(t, w, call(0, creates()), 1, 2)
	sends(t, w, deliver(1))
	isUp(t, "the second write is armed", w, true, true, true)
	sends(t, w, crash(0, 0))
	sends(t, w, restart(0, 0))
	sends(t, w, call(0, creates()), 3, 4, 5, 6)
	sends(t, w, deliver(5))
	isUp(t, "none is armed", w, true, true, true)
	isLog(t, "none is armed", w, 0, 1, 2)
}

// TestCrash: the node is off, its log is what it had; the disk keeps N bytes, none of an N below 0.
func TestCrash(t *testing.T) {
	for _, node := range nodes {
		for _, keep := range []int{0, 1, -1, 1000, math.MinInt, math.MaxInt} {
			w := standing(t, sized(1, 1), 1, creates(), creates())
			w.Step(sign())
			used := w.Disk(node).Used()
			sends(t, w, crash(node, keep))
			isUp(t, "crashed", w, node != 0, node != 1, node != 2)
			isLog(t, "crashed", w, node, 1, 2)
			if d := w.Disk(node); !d.Off() || d.Used() != used || d.Pending() != 0 {
				t.Errorf("P18.3: Crash(%d, %d): %s", node, keep, laid(d))
			}
			refuses(t, w, crash(node, keep), api.EOFF)
			sends(t, w, restart(node, keep))
			isLog(t, "restarted", w, node, 1, 2)
		}
	}
}

// TestCrashCutsWhatIsPending: a node that is up has nothing pending; so the test lays something there.
func TestCrashCutsWhatIsPending(t *testing.T) {
	for _, c := range []struct{ keep, left int }{{0, 0}, {-1, 0}, {math.MinInt, 0}, {3, 3}, {5, 5}, {6, 5}, {math.MaxInt, 5}} {
		w := made(t, sized(1, 0), 1)
		d := w.Disk(1)
		d.Create("other")
		d.Append("other", []byte{1, 2, 3, 4, 5})
		sends(t, w, crash(1, c.keep))
		if !d.Off() || d.Used() != c.left || d.Pending() != 0 {
			t.Errorf("P18.3: Crash of N %d leaves %d of 5 bytes, want %d", c.keep, d.Used(), c.left)
		}
	}
}

// TestRestartCutsWhatIsPending: what a torn write has left is cut to N bytes at most; what comes through whole is there.
func TestRestartCutsWhatIsPending(t *testing.T) {
	frame := frameOf(t, sized(1, 0), creates())
	for torn := 0; torn <= frame+1; torn++ {
		for _, keep := range []int{math.MinInt, -1, 0, 1, 11, 12, 13, torn - 1, torn, torn + 1, frame - 1, frame, frame + 1, math.MaxInt} {
			w := made(t, sized(1, 0), 1)
			sends(t, w, arm(0, 1, torn))
			sends(t, w, call(0, creates()), 1, 2)
			sends(t, w, deliver(1))
			if left := w.Disk(0).Pending(); left != min(torn, frame) {
				t.Fatalf("P18.3: %d bytes are pending behind a write torn at %d", left, torn)
			}
			sends(t, w, restart(0, keep))
			if min(torn, keep) >= frame {
				isLog(t, "all of it stays", w, 0, 1)
			} else {
				isLog(t, "it was torn", w, 0)
			}
		}
	}
}

// TestRestartWhenOpenRefuses: bits of a disk are turned, which no step does: the node stays off, with the log that it had, till the bits are as they were.
func TestRestartWhenOpenRefuses(t *testing.T) {
	for _, node := range nodes {
		w := standing(t, sized(1, 0), 1, creates(), creates())
		sends(t, w, crash(node, 0))
		turn := func() {
			w.Disk(node).Start()
			w.Disk(node).Turn("log.0", 20, 3)
			w.Disk(node).Crash(0)
		}
		turn()
		for range 2 {
			refuses(t, w, restart(node, 1000), api.EBROKEN)
			isUp(t, "Open refuses", w, node != 0, node != 1, node != 2)
			isLog(t, "Open refuses", w, node, 1, 2)
			refuses(t, w, tick(node), api.EOFF)
			refuses(t, w, arm(node, 1, 1), api.EOFF)
			refuses(t, w, crash(node, 1), api.EOFF)
			if node == 2 {
				refuses(t, w, sign(), api.EOFF)
				refuses(t, w, include(0, 1), api.EOFF)
				refuses(t, w, extend(0, 1), api.EOFF)
			}
		}
		x := w.Step(call(0, creates()))
		sends(t, w, deliver(x.Sent[0])) // what is for it is lost
		sends(t, w, deliver(x.Sent[1]))
		turn()
		sends(t, w, restart(node, 0))
		rounds(w, 1, 12)
		isLog(t, "the bits are as they were", w, node, 1, 2, 3)
	}
}

// TestRestartWhenTheKeysAreBroken: what keyring.Open answers, at the tail alone.
func TestRestartWhenTheKeysAreBroken(t *testing.T) {
	w := standing(t, sized(1, 0), 1, creates())
	signs(t, w, 1)
	sends(t, w, crash(2, 0))
	w.Disk(2).Start()
	w.Disk(2).Turn("keys.0", 5, 0)
	w.Disk(2).Crash(0)
	refuses(t, w, restart(2, 0), api.EBROKEN)
	refuses(t, w, sign(), api.EOFF)
	isLog(t, "the keys are broken", w, 2, 1)
}

// TestRestartKnowsNothing: a node that was restarted asks its successor anew.
func TestRestartKnowsNothing(t *testing.T) {
	w := standing(t, sized(1, 0), 1, creates())
	for _, node := range []int{0, 1} {
		sends(t, w, tick(node))
		w.Step(crash(node, 0))
		w.Step(restart(node, 0))
		x := w.Step(tick(node))
		isMessage(t, w, x.Sent[0], node, node+1, what())
	}
}

// TestFill: of nodes that are up and that are off; it stays so across crashes.
func TestFill(t *testing.T) {
	for _, full := range []int{1, -1, 2, math.MaxInt, math.MinInt, 1 << 32} {
		w := made(t, sized(1, 0), 1)
		sends(t, w, crash(0, 0))
		sends(t, w, fill(0, full))
		sends(t, w, restart(0, 0))
		sends(t, w, call(0, creates()), 1, 2)
		sends(t, w, deliver(1), 3)
		isMessage(t, w, 3, 0, 10, busy(id(0, 1), api.EFULL))
		sends(t, w, crash(0, 0))
		sends(t, w, fill(0, 0))
		sends(t, w, restart(0, 0))
		sends(t, w, retry(0), 4, 5)
		sends(t, w, deliver(4))
		isLog(t, "room again", w, 0, 1)
	}
}

// TestFullDisksOfTheOthers: the middle and the tail take nothing, say so by a Have, and go on when there is room.
func TestFullDisksOfTheOthers(t *testing.T) {
	for _, node := range []int{1, 2} {
		w := made(t, sized(1, 1), 1)
		sends(t, w, fill(node, 1))
		for range 3 {
			w.Step(call(0, creates()))
		}
		rounds(w, 1, 10)
		isLog(t, "no room", w, node)
		isLog(t, "no room behind it", w, 2)
		waits(t, "no room", w, 0, 1, 2, 3)
		if node == 2 {
			refuses(t, w, sign(), api.EFULL)
		}
		sends(t, w, fill(node, 0))
		rounds(w, 1, 16)
		isLog(t, "room again", w, 2, 1, 2, 3)
		waits(t, "room again", w, 0)
	}
}

// TestADiskThatIsReallyFull: requests are done up to its limit, the others wait.
func TestADiskThatIsReallyFull(t *testing.T) {
	c := sized(1, 0)
	c.Disk = 8192
	w := made(t, c, 1)
	long := creates(make([]api.Field, 30)...)
	for i := range long.Fields {
		long.Fields[i] = text(string(rune('A'+i)), "0123456789012345678901234567890123456789")
	}
	for range 6 {
		if x := w.Step(call(0, long)); x.E != api.OK {
			t.Fatalf("P18.3: Call: %d", x.E)
		}
	}
	rounds(w, 1, 30)
	b, _ := wire.PutEvent(w.Log(0)[0])
	room := 8192 / (len(b) + 12)
	if n := len(w.Got(0)); n != room || n < 2 || len(w.Waiting(0)) != 6-room {
		t.Errorf("T1: %d are answered, %d wait, there is room for %d", n, len(w.Waiting(0)), room)
	}
	for _, node := range nodes {
		if len(w.Log(node)) != room {
			t.Errorf("T1: the node %d has %d events", node, len(w.Log(node)))
		}
	}
}

// TestNoSuchOp: EARG, and nothing happens, whatever else the step says.
func TestNoSuchOp(t *testing.T) {
	w := standing(t, sized(1, 0), 1, creates())
	w.Step(call(0, creates()))
	for _, op := range []int{0, -1, 14, 15, 255, 256, 257, math.MinInt, math.MaxInt, 1<<32 + 1, 1 << 32} {
		refuses(t, w, world.Step{Op: op}, api.EARG)
		refuses(t, w, world.Step{Op: op, Node: 1, Client: 0, Index: w.Bag()[0], N: 1, Request: creates()}, api.EARG)
	}
}
