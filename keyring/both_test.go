package keyring_test

import (
	"fmt"
	"math"
	"math/rand"
	"reflect"
	"strings"
	"testing"

	"almoner/api"
	"almoner/disk"
	"almoner/keyring"
)

// pair is a ring and the words' one, on disks that are treated alike, and what the ring has ever told.
type pair struct {
	t    *testing.T
	c    api.Config
	d, e *disk.Disk
	r    *keyring.Ring
	p    *plain
	said []string
	life life
}

func newPair(t *testing.T, c api.Config, limit int) *pair {
	x := &pair{t: t, c: c, d: newDisk(t, limit), e: newDisk(t, limit), life: newLife()}
	x.open()
	return x
}

// say keeps a call, and fails if the two answers are not one.
func (x *pair) say(call string, got, want any) {
	x.t.Helper()
	x.said = append(x.said, call)
	if !reflect.DeepEqual(got, want) && fmt.Sprint(got) != fmt.Sprint(want) { // nil and an empty list are one
		x.t.Fatalf("%s\nanswered %v, want %v", strings.Join(x.said, "; "), got, want)
	}
}

// open opens both; where that is refused both stay what they were.
func (x *pair) open() {
	r, e := keyring.Open(x.c, x.d, "keys")
	p, f := openPlain(x.c, x.e, "keys")
	x.say("Open", e, f)
	if e == api.OK {
		x.r, x.p = r, p
	} else if r != nil {
		x.t.Fatalf("%v: R2: a ring beside an error", x.said)
	}
}

func (x *pair) sign(h api.Head) {
	s, e := x.r.Sign(h)
	u, f := x.p.sign(h)
	x.say(fmt.Sprintf("Sign(%v)", h), []any{s.Head, s.Key, e}, []any{u.Head, u.Key, f})
	x.say("its signature", s.Signature, u.Signature)
	if fault := x.life.take(x.c, x.r.Public(), h, s, e); fault != "" {
		x.t.Fatalf("%s\nP13.4: %s", strings.Join(x.said, "; "), fault)
	}
}

// disks does the same to both.
func (x *pair) disks(call string, do func(d *disk.Disk)) {
	do(x.d)
	do(x.e)
	x.said = append(x.said, call)
}

func (x *pair) arm(n, b int) {
	x.disks(fmt.Sprintf("Arm(%d, %d)", n, b), func(d *disk.Disk) { d.Arm(n, b) })
}

func (x *pair) crash(keep int) {
	x.disks(fmt.Sprintf("Crash(%d)", keep), func(d *disk.Disk) { d.Crash(keep) })
}

func (x *pair) fill(full bool) {
	x.disks(fmt.Sprintf("Fill(%v)", full), func(d *disk.Disk) { d.Fill(full) })
}

func (x *pair) start() { x.disks("Start", func(d *disk.Disk) { d.Start() }) }

// look asks for all that can be seen of both.
func (x *pair) look() {
	kept := x.said
	x.say("the disk", laid(x.d), laid(x.e))
	x.say("Public, Left", []any{x.r.Public(), x.r.Left()}, []any{x.p.public(), x.p.left()})
	x.say("Bound", x.r.Bound(), x.p.heads)
	for _, h := range x.p.heads {
		x.sign(h)
	}
	x.said = kept
}

// life is what P13.4 speaks of: all that a ring has told in its life, however often it was opened.
type life struct {
	messages map[uint32]string // by the keys
	signed   map[uint32]string // by the sizes
	asked    map[string]int    // how often heads were asked for that may be bound since
	greatest int64             // of the sizes that were signed
}

func newLife() life {
	return life{messages: map[uint32]string{}, signed: map[uint32]string{}, asked: map[string]int{}, greatest: -1}
}

// take takes in what Sign has answered, and tells what P13.4 forbids, if that has come.
func (l *life) take(c api.Config, public []byte, h api.Head, s api.Signed, e api.Errno) string {
	name := fmt.Sprint(h)
	isFirst := l.asked[name] == 0
	if e == api.OK || e == api.EOFF { // behind another error it is not bound, and asked for as if for the first time
		l.asked[name]++
	}
	if e != api.OK {
		return ""
	}
	message := fmt.Sprint(s.Head)
	all := fmt.Sprint(s.Key, message, string(s.Signature))
	if was, ok := l.messages[s.Key]; ok && was != message {
		return fmt.Sprintf("the key %d has signed %s and %s", s.Key, was, message)
	}
	if was, ok := l.signed[h.Size]; ok && was != all {
		return fmt.Sprintf("of the size %d there are %q and %q", h.Size, was, all)
	}
	if isFirst && int64(h.Size) <= l.greatest {
		return fmt.Sprintf("%v is signed when it is asked for for the first time, behind %d", h, l.greatest)
	}
	if message != name || !isTaken(c, public, s) {
		return "a signature that is not taken"
	}
	l.messages[s.Key], l.signed[h.Size] = message, all
	l.greatest = max(l.greatest, int64(h.Size))
	return ""
}

// TestAllShortScripts goes through all scripts of four calls out of some, each with a look at the end, and one behind opening again.
func TestAllShortScripts(t *testing.T) {
	calls := []func(x *pair){
		func(x *pair) { x.sign(head(3, 7)) },
		func(x *pair) { x.sign(head(3, 8)) },
		func(x *pair) { x.sign(head(5, 1)) },
		func(x *pair) { x.sign(head(0, 1)) },
		func(x *pair) { x.sign(wide(1, 9, 1)) },
		func(x *pair) { x.arm(1, 20) },
		func(x *pair) { x.arm(1, 1000) },
		func(x *pair) { x.crash(1000) },
		func(x *pair) { x.start() },
		func(x *pair) { x.open() },
		func(x *pair) { x.fill(true) },
		func(x *pair) { x.fill(false) },
	}
	var choose func(script []int)
	choose = func(script []int) {
		if len(script) == 4 {
			x := newPair(t, sized(2, 1), 8192)
			for _, i := range script {
				calls[i](x)
			}
			x.look()
			x.crash(23)
			x.start()
			x.open()
			x.look()
			x.sign(head(5, 1))
			return
		}
		for i := range calls {
			choose(append(script, i))
		}
	}
	choose(nil)
}

// anyHead tells one out of few, most often of the ring's width, and a little above what was bound last.
func (x *pair) anyHead(r *rand.Rand) api.Head {
	size := uint32(r.Intn(8))
	if n := len(x.p.heads); n > 0 && r.Intn(4) > 0 {
		size += x.p.heads[n-1].Size - uint32(r.Intn(4))
	}
	width := x.c.Width
	if r.Intn(10) == 0 {
		width = r.Intn(36)
	}
	return wide(width, size, byte(r.Intn(2)))
}

func (x *pair) anyStep(r *rand.Rand) {
	switch r.Intn(20) {
	case 0, 1:
		x.arm(1+r.Intn(2), r.Intn(70))
	case 2:
		x.crash(r.Intn(x.d.Pending() + 2))
	case 3:
		x.fill(r.Intn(3) == 0)
	case 4:
		x.start()
	case 5, 6, 7:
		x.start()
		x.open()
	default:
		x.sign(x.anyHead(r))
	}
}

// TestAnyCalls holds both rings against each other, behind every few calls, through crashes and openings; and all that was told against P13.4.
func TestAnyCalls(t *testing.T) {
	r := rand.New(rand.NewSource(1313))
	most, again := 0, 0
	for i := range 300 {
		shape := []struct{ width, height, limit int }{{2, 2, 8192}, {1, 4, 200}, {1, 6, 8192}, {2, 3, 100}, {32, 1, 8192}, {3, 0, 8192}}[i%6]
		x := newPair(t, sized(shape.width, shape.height), shape.limit)
		for k := range 80 {
			x.anyStep(r)
			if k%10 == 9 {
				x.look()
			}
		}
		x.fill(false)
		x.start()
		x.open()
		x.look()
		for _, h := range x.p.heads { // when no key is left, too
			x.sign(h)
		}
		most = max(most, len(x.p.heads))
		for _, n := range x.life.asked {
			again = max(again, n)
		}
	}
	if most < 20 || again < 10 {
		t.Errorf("no run has bound more than %d heads, or asked for one more than %d times", most, again)
	}
}

// TestAskedForAgainBehindGreater: a head that was refused with EOFF, and is bound all the same, is signed when it is asked for again.
func TestAskedForAgainBehindGreater(t *testing.T) {
	c := sized(2, 2)
	r, d := fresh(t, c)
	signs(t, c, r, head(1, 1), 0)
	d.Arm(1, 1000)
	refuses(t, "written whole", r, head(5, 5), api.EOFF)
	d.Crash(1000)
	d.Start()
	r = opened(t, c, d)
	signs(t, c, r, head(9, 9), 2)
	signs(t, c, r, head(5, 5), 1)
	refuses(t, "one between", r, head(6, 5), api.EOLD)
	holds(t, "asked for again", r, 1, head(1, 1), head(5, 5), head(9, 9))
}

// TestAnyArguments: no call panics, each ends, and beside an error there is nothing; whatever another hand does to the disk.
func TestAnyArguments(t *testing.T) {
	r := rand.New(rand.NewSource(1314))
	numbers := []int{math.MinInt, -1, 0, 1, 2, 3, 6, 7, 32, 33, 8191, 8192, 65536, 1 << 20, 1<<20 + 1, math.MaxInt}
	any := func() int { return numbers[r.Intn(len(numbers))] }
	for range 400 {
		d := newDisk(t, 500)
		ring := opened(t, examples(), d)
		for range 40 {
			switch r.Intn(8) {
			case 0:
				anyHand(r, d)
			case 1:
				if u, e := keyring.Open(examples(), d, "keys"); e == api.OK {
					ring = u
				} else if u != nil {
					t.Fatal("R2: a ring beside an error")
				}
			case 2:
				c := api.Config{Width: any(), Height: any(), Seed: make([]byte, r.Intn(70)), Segment: any(), Disk: any()}
				if u, e := keyring.Open(c, d, strings.Repeat("n", r.Intn(40))); e != api.OK && u != nil {
					t.Fatal("R2: a ring beside an error")
				}
			default:
				h := api.Head{Size: uint32(any()), Root: make([]byte, r.Intn(4))}
				if s, e := ring.Sign(h); e != api.OK && !sameSigned(s, api.Signed{}) {
					t.Fatalf("R2: Sign: %v beside %d", s, e)
				}
			}
			if n := len(ring.Bound()) + ring.Left(); n != 2 || len(ring.Public()) != 2 {
				t.Fatalf("P13.3: bound and left are %d together", n)
			}
		}
	}
}

// anyHand does something to a log's files that is not the log's doing.
func anyHand(r *rand.Rand, d *disk.Disk) {
	name := fmt.Sprint("keys.", r.Intn(3))
	switch r.Intn(8) {
	case 0:
		d.Create(name)
	case 1:
		d.Append(name, make([]byte, r.Intn(20)))
	case 2:
		d.Cut(name, r.Intn(60))
	case 3:
		d.Remove(name)
	case 4:
		d.Turn(name, r.Intn(60), uint(r.Intn(8)))
	case 5:
		d.Crash(r.Intn(40))
	case 6:
		d.Arm(1+r.Intn(3), r.Intn(60))
	default:
		d.Start()
	}
}
