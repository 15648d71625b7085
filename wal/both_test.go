package wal_test

import (
	"bytes"
	"fmt"
	"math"
	"math/rand"
	"slices"
	"strings"
	"testing"

	"almoner/api"
	"almoner/disk"
	"almoner/wal"
)

// pair is a log and the words' one, on disks that are treated alike.
type pair struct {
	t    *testing.T
	d, e *disk.Disk
	l    *wal.Log
	p    *plain
	size int
	good bool // the log is, till its disk goes off, or another hand changes its files
	said []string
}

func newPair(t *testing.T, limit, size int) *pair {
	x := &pair{t: t, d: made(t, limit), e: made(t, limit), size: size}
	x.open()
	return x
}

// say keeps a call, and fails if the two answers are not one.
func (x *pair) say(call string, got, want any) {
	x.said = append(x.said, call)
	if fmt.Sprint(got) != fmt.Sprint(want) {
		x.t.Fatalf("%s\nanswered %v, want %v", strings.Join(x.said, "; "), got, want)
	}
}

func (x *pair) open() {
	l, e := wal.Open(x.d, "log", x.size)
	p, f := openPlain(x.e, "log", x.size)
	x.say("Open", e, f)
	if e == api.OK {
		x.l, x.p, x.good = l, p, true
	} else if l != nil {
		x.t.Fatalf("%v: R2: a log beside an error", x.said)
	}
}

func (x *pair) append(n int) {
	if !x.good {
		return
	}
	b := bytesOf(len(x.said), n)
	at, e := x.l.Append(b)
	want, f := x.p.append(b)
	x.say(fmt.Sprintf("Append(%d bytes)", n), []any{at, e}, []any{want, f})
}

func (x *pair) sync() {
	if x.good {
		x.say("Sync", x.l.Sync(), x.p.sync())
	}
}

// disks does the same to both disks.
func (x *pair) disks(call string, do func(d *disk.Disk) api.Errno) {
	x.say(call, do(x.d), do(x.e))
}

func (x *pair) arm(n, b int) {
	x.disks(fmt.Sprintf("Arm(%d, %d)", n, b), func(d *disk.Disk) api.Errno { return d.Arm(n, b) })
}

func (x *pair) crash(keep int) {
	x.disks(fmt.Sprintf("Crash(%d)", keep), func(d *disk.Disk) api.Errno { d.Crash(keep); return api.OK })
}

func (x *pair) fill(full bool) {
	x.disks(fmt.Sprintf("Fill(%v)", full), func(d *disk.Disk) api.Errno { d.Fill(full); return api.OK })
}

func (x *pair) start() {
	x.disks("Start", func(d *disk.Disk) api.Errno { d.Start(); return api.OK })
}

// byHand syncs a segment of the log, without its knowing.
func (x *pair) byHand() {
	x.disks("the disk's Sync", func(d *disk.Disk) api.Errno { return d.Sync("log.0") })
}

// turn turns a bit of a file of the log, which is no good one then.
func (x *pair) turn(name string, at int, bit uint) {
	x.disks(fmt.Sprintf("Turn(%q, %d, %d)", name, at, bit), func(d *disk.Disk) api.Errno { return d.Turn(name, at, bit) })
	x.good = false
}

// look asks for all that can be seen of both.
func (x *pair) look() {
	kept := x.said
	x.good = x.good && !x.d.Off()
	x.say("the disk", seen(x.d), seen(x.e))
	if x.good {
		want := x.p.payloads()
		x.say("Len", x.l.Len(), len(want))
		x.say("Synced", x.l.Synced(), x.p.synced())
		x.say("Segments", x.l.Segments(), x.p.sizes())
		for i := -1; i <= len(want); i++ {
			b, e := x.l.At(i)
			c, f := x.p.at(i)
			x.say(fmt.Sprintf("At(%d)", i), []any{string(b), e}, []any{string(c), f})
		}
	}
	x.said = kept
}

// TestAllShortScripts goes through all scripts of four calls out of some, with a look at their end.
func TestAllShortScripts(t *testing.T) {
	calls := []func(x *pair){
		func(x *pair) { x.append(0) },
		func(x *pair) { x.append(4) },
		func(x *pair) { x.append(18) },
		func(x *pair) { x.append(19) },
		func(x *pair) { x.sync() },
		func(x *pair) { x.byHand() },
		func(x *pair) { x.arm(1, 13) },
		func(x *pair) { x.arm(2, 0) },
		func(x *pair) { x.crash(20) },
		func(x *pair) { x.start() },
		func(x *pair) { x.start(); x.open() },
		func(x *pair) { x.fill(true) },
		func(x *pair) { x.fill(false) },
	}
	var choose func(script []int)
	choose = func(script []int) {
		if len(script) == 4 {
			x := newPair(t, 70, 30)
			x.append(4)
			for _, i := range script {
				calls[i](x)
				x.good = x.good && !x.d.Off()
			}
			x.look()
			x.start()
			x.open()
			x.look()
			return
		}
		for i := range calls {
			choose(append(script, i))
		}
	}
	choose(nil)
}

// anyStep does one call, with whatever arguments.
func anyStep(x *pair, r *rand.Rand) {
	switch r.Intn(30) {
	case 0:
		x.arm(1+r.Intn(3), r.Intn(x.size+2))
	case 1:
		x.crash(r.Intn(x.d.Pending() + 2))
	case 2:
		x.fill(r.Intn(3) == 0)
	case 3, 4:
		x.start()
	case 5, 6, 7:
		x.start()
		x.open()
	case 8, 9, 10:
		x.sync()
	case 11:
		x.byHand()
	case 12:
		x.size = max(16, x.size-r.Intn(3))
		x.good = false
		x.open()
	case 13:
		if r.Intn(6) == 0 {
			x.turn("log.0", r.Intn(40), uint(r.Intn(8)))
		}
	case 14:
		x.append(x.size - 12 + r.Intn(2))
	default:
		x.append(r.Intn(x.size - 11))
	}
}

// TestAnyCalls holds both logs against each other, behind every call.
func TestAnyCalls(t *testing.T) {
	r := rand.New(rand.NewSource(911))
	for i := range 600 {
		x := newPair(t, []int{1, 12, 30, 200, 2000}[i%5], 16+r.Intn(60))
		for range 60 {
			anyStep(x, r)
			x.look()
		}
	}
}

// anyChange does something to a disk, without a look at what is on it.
func anyChange(r *rand.Rand, d *disk.Disk) {
	name := fmt.Sprint("log.", r.Intn(4))
	switch r.Intn(11) {
	case 0:
		d.Create(name)
	case 1:
		d.Append(name, bytesOf(r.Intn(9), r.Intn(20)))
	case 2:
		d.Append(name, frameOf(bytesOf(r.Intn(9), r.Intn(20))))
	case 3:
		d.Cut(name, r.Intn(60))
	case 4:
		d.Remove(name)
	case 5:
		d.Turn(name, r.Intn(60), uint(r.Intn(8)))
	case 6:
		d.Crash(r.Intn(40))
	case 7:
		d.Arm(1+r.Intn(3), r.Intn(20))
	case 8:
		d.Fill(r.Intn(2) == 0)
	default:
		d.Start()
	}
}

// TestAnyCallsOfALogThatIsNotGood: behind that nothing is promised, but that no call panics, and each ends.
func TestAnyCallsOfALogThatIsNotGood(t *testing.T) {
	r := rand.New(rand.NewSource(912))
	edges := []int{math.MinInt, -1, 0, 1, 2, 5, 1 << 32, math.MaxInt}
	for range 3000 {
		d := made(t, 300)
		logs := []*wal.Log{opened(t, d, "log", 40)}
		for range 60 {
			l := logs[r.Intn(len(logs))]
			switch r.Intn(9) {
			case 0, 1:
				l.Append(bytesOf(r.Intn(9), r.Intn(31)))
			case 2:
				l.Sync()
			case 3:
				if n, s := l.Len(), l.Synced(); s < 0 || s > n {
					t.Fatalf("P9.3: %d of %d payloads are safe", s, n)
				}
			case 4:
				l.Segments()
			case 5:
				if b, e := l.At(edges[r.Intn(len(edges))]); e != api.OK && len(b) != 0 {
					t.Fatalf("R2: At: %v beside the error %d", b, e)
				}
			case 6:
				again, e := wal.Open(d, "log", 16+r.Intn(40))
				if (again == nil) != (e != api.OK) {
					t.Fatalf("R2: Open: %v beside %d", again, e)
				}
				if again != nil {
					logs = append(logs, again)
				}
			default:
				anyChange(r, d)
			}
		}
	}
}

// TestTwoLogs lets two logs grow on one disk: one's name is a beginning of the other's, or of its segments' names.
func TestTwoLogs(t *testing.T) {
	for _, names := range [][2]string{{"log", "log.0"}, {"log", "log."}, {"l", "log"}, {"a", "A"}, {"log", "log0"}, {"1", "1.1"}} {
		for keep := range 200 {
			d := made(t, 10000)
			var logs [2]*wal.Log
			var lists [2][][]byte
			for i := range logs {
				logs[i] = opened(t, d, names[i], 40)
			}
			for i := range 12 {
				which := (i*i + i/3) % 2
				p := bytesOf(i, i*7%29)
				adds(t, "P9.7", logs[which], p, len(lists[which]))
				lists[which] = append(lists[which], p)
				if i == 7 {
					logs[which].Sync()
				}
			}
			for i := range logs {
				holds(t, "P9.7: two logs on one disk", logs[i], lists[i]...)
			}
			twoRecover(t, d, names, keep, logs, lists)
		}
	}
}

// twoRecover crashes the disk of two logs, opens one, and looks whether the other one's bytes are touched.
func twoRecover(t *testing.T, d *disk.Disk, names [2]string, keep int, logs [2]*wal.Log, lists [2][][]byte) {
	t.Helper()
	safe := [2]int{logs[0].Synced(), logs[1].Synced()}
	d.Crash(keep)
	d.Start()
	for i := range logs {
		others := filesOf(d, names[1-i])
		l := opened(t, d, names[i], 40)
		if l.Len() < safe[i] {
			t.Fatalf("P9.5: %d payloads, and %d were safe", l.Len(), safe[i])
		}
		holds(t, "P9.5: two logs on one disk", l, lists[i][:l.Len()]...)
		if now := filesOf(d, names[1-i]); !slices.Equal(now, others) {
			t.Fatalf("P9.7: the other one's files were %q, and are %q", others, now)
		}
	}
}

// filesOf tells the names and bytes of a log's segments.
func filesOf(d *disk.Disk, name string) []string {
	var l []string
	p := &plain{d: d, name: name, size: 40}
	for i, b := range p.segments() {
		l = append(l, p.file(i), string(b))
	}
	return l
}

// TestTheOtherIsBroken: a log is opened, whatever another one's files are.
func TestTheOtherIsBroken(t *testing.T) {
	d := made(t, 1000)
	lay(t, d, "log.0", frameOf([]byte{1}))
	lay(t, d, "log.0.0", make([]byte, 30))
	lay(t, d, "lo.0", []byte{1, 2, 3})
	was := seen(d)
	fails(t, "P9.1: broken", d, "log.0", 40, api.EBROKEN)
	holds(t, "P9.7: another one is broken", opened(t, d, "log", 40), []byte{1})
	same(t, "P9.7: another one is broken, another one torn", d, was)
}

// TestAnyNamesOneDisk opens as many logs as a disk has files, each with a payload that is its name.
func TestAnyNamesOneDisk(t *testing.T) {
	d := made(t, 1<<16)
	var names []string
	for i := range 256 {
		names = append(names, strings.Repeat(string([]byte{byte(i)}), 1+i%32))
	}
	for _, name := range names {
		adds(t, "P9.7", opened(t, d, name, 50), []byte(name), 0)
	}
	for _, name := range names {
		l := opened(t, d, name, 50)
		if b, e := l.At(0); l.Len() != 1 || e != api.OK || !bytes.Equal(b, []byte(name)) {
			t.Errorf("P9.7: the log %q has %q (%d)", name, b, e)
		}
	}
}
