package store_test

import (
	"bytes"
	"fmt"
	"math"
	"math/rand"
	"strings"
	"testing"

	"almoner/api"
	"almoner/disk"
	"almoner/record"
	"almoner/store"
)

// pair is a store and the words' one, on disks that are treated alike.
type pair struct {
	t    *testing.T
	c    api.Config
	d, e *disk.Disk
	s    *store.Store
	p    *plain
	said []string
}

func newPair(t *testing.T, c api.Config, limit int) *pair {
	x := &pair{t: t, c: c, d: newDisk(t, limit), e: newDisk(t, limit)}
	x.open()
	return x
}

// say keeps a call, and fails if the two answers are not one.
func (x *pair) say(call string, got, want any) {
	x.said = append(x.said, call)
	if fmt.Sprint(got) != fmt.Sprint(want) {
		x.t.Fatalf("%s\nanswered %v, want %v", strings.Join(x.said, "; "), got, want)
	}
}

// open opens both; where that is refused both stay what they were.
func (x *pair) open() {
	s, e := store.Open(x.c, x.d, "log")
	p, f := openPlain(x.c, x.e, "log")
	x.say("Open", e, f)
	if e == api.OK {
		x.s, x.p = s, p
	} else if s != nil {
		x.t.Fatalf("%v: R2: a store beside an error", x.said)
	}
}

func (x *pair) do(r api.Request) {
	place, a, again, e := x.s.Do(r)
	at, b, there, f := x.p.do(r)
	x.say(fmt.Sprintf("Do(%+v)", r), []any{place, a, again, e}, []any{at, b, there, f})
}

func (x *pair) take(ev api.Event) {
	x.say(fmt.Sprintf("Take(%+v)", ev), x.s.Take(ev), x.p.take(ev))
}

// next tells the event that is right for a request.
func (x *pair) next(r api.Request) api.Event {
	a := x.p.next(r)
	ev, _ := record.Event(x.c.Width, uint32(len(x.p.events)), r, a)
	return ev
}

// disks does the same to both.
func (x *pair) disks(call string, do func(d *disk.Disk)) {
	do(x.d)
	do(x.e)
	x.said = append(x.said, call)
}

func (x *pair) arm(n, b int) {
	x.disks(fmt.Sprintf("Arm(%d, %d)", n, b), func(d *disk.Disk) { d.Arm(n, b) })
}

func (x *pair) crash(keep int) {
	x.disks(fmt.Sprintf("Crash(%d)", keep), func(d *disk.Disk) { d.Crash(keep) })
}

func (x *pair) fill(full bool) {
	x.disks(fmt.Sprintf("Fill(%v)", full), func(d *disk.Disk) { d.Fill(full) })
}

func (x *pair) start() { x.disks("Start", func(d *disk.Disk) { d.Start() }) }

// look asks for all that can be seen of both.
func (x *pair) look() {
	kept := x.said
	x.say("the disk", laid(x.d), laid(x.e))
	n := len(x.p.events)
	x.say("Len", x.s.Len(), n)
	answers := record.Answers(x.c.Staff, x.p.requests())
	entries := x.p.entries()
	for i := -1; i <= n; i++ {
		ev, e := x.s.Event(i)
		b, f := x.s.Entry(i)
		a, g := x.s.Answer(i)
		if i < 0 || i >= n {
			x.say(fmt.Sprintf("the place %d", i), []any{ev, e, b, f, a, g}, []any{api.Event{}, api.ENONE, []byte(nil), api.ENONE, api.Answer{}, api.ENONE})
			continue
		}
		if !sameEvent(ev, x.p.events[i]) || !bytes.Equal(b, entries[i]) || !sameAnswer(a, answers[i]) || e != api.OK || f != api.OK || g != api.OK {
			x.t.Fatalf("%s\nP12.5: the place %d: %+v %d, %x %d, %+v %d, want %+v, %x, %+v", strings.Join(x.said, "; "), i, ev, e, b, f, a, g, x.p.events[i], entries[i], answers[i])
		}
		place, ok := x.s.Find(ev.Request.Id)
		x.say("Find", []any{place, ok}, []any{i, true})
	}
	got, e := x.s.Root(n)
	want, f := x.p.root(n)
	x.say("Root", []any{got, e}, []any{want, f})
	x.said = kept
}

// TestAllShortScripts goes through all scripts of three calls out of some, each with a look at the end, and one behind opening again.
func TestAllShortScripts(t *testing.T) {
	reads := api.Request{Id: api.Id{Client: 1, Number: 1}, Actor: 6, Op: api.OpRead, Record: 2}
	calls := []func(x *pair){
		func(x *pair) { x.do(creates(1)) },
		func(x *pair) { x.do(creates(2)) },
		func(x *pair) { x.do(reads) },
		func(x *pair) { x.do(api.Request{Id: api.Id{Number: 2}}) },
		func(x *pair) { x.take(x.next(creates(2))) },
		func(x *pair) { x.take(x.next(reads)) },
		func(x *pair) { ev := x.next(creates(3)); ev.Code = 1; x.take(ev) },
		func(x *pair) { ev := x.next(creates(3)); ev.Place = 0; x.take(ev) },
		func(x *pair) { x.arm(1, 30) },
		func(x *pair) { x.arm(2, 1000) },
		func(x *pair) { x.crash(1000) },
		func(x *pair) { x.start() },
		func(x *pair) { x.open() },
		func(x *pair) { x.fill(true) },
		func(x *pair) { x.fill(false) },
	}
	var choose func(script []int)
	choose = func(script []int) {
		if len(script) == 3 {
			x := newPair(t, ofWidth(2), 65536)
			x.do(creates(0))
			for _, i := range script {
				calls[i](x)
			}
			x.look()
			x.crash(40)
			x.start()
			x.open()
			x.look()
			return
		}
		for i := range calls {
			choose(append(script, i))
		}
	}
	choose(nil)
}

// anyFields tells some, most often of a form.
func anyFields(r *rand.Rand) []api.Field {
	var l []api.Field
	for _, name := range []string{"a", "b", "c", "d"} {
		switch r.Intn(6) {
		case 0:
			l = append(l, text(name, strings.Repeat("x", r.Intn(66))))
		case 1:
			l = append(l, quantity(name, float32(r.Intn(5)), uint8(r.Intn(22))))
		case 2:
			l = append(l, api.Field{Name: name, Kind: api.FieldGone})
		}
	}
	return l
}

// anyRequest tells one out of few ids, most often of a form.
func anyRequest(r *rand.Rand) api.Request {
	q := api.Request{Id: api.Id{Client: uint32(r.Intn(3)), Number: uint32(r.Intn(20))}, Actor: uint32(r.Intn(8)), Op: uint8(r.Intn(8))}
	if q.Op != api.OpCreate {
		q.Record = uint32(r.Intn(4))
	}
	switch q.Op {
	case api.OpCreate:
		q.Ward, q.Owner, q.Fields = uint32(7+r.Intn(2)), uint32(5+r.Intn(2)), anyFields(r)
	case api.OpAmend:
		q.Version, q.Fields = uint32(r.Intn(4)), anyFields(r)
	case api.OpRead, api.OpRedact:
		q.Version = uint32(r.Intn(4))
	case api.OpSeal:
		q.Version = uint32(r.Intn(3))
	case api.OpBreak:
		q.Reason = strings.Repeat("r", r.Intn(66))
	}
	return q
}

// anyEvent tells one, right or not.
func (x *pair) anyEvent(r *rand.Rand) api.Event {
	ev := x.next(anyRequest(r))
	ev.Digest = bytes.Clone(ev.Digest)
	switch r.Intn(8) {
	case 0:
		ev.Place = uint32(r.Intn(20))
	case 1:
		ev.Code = uint8(r.Intn(12))
	case 2:
		if len(ev.Digest) > 0 {
			ev.Digest[r.Intn(len(ev.Digest))] ^= 1 << r.Intn(8)
		}
	case 3:
		ev.Request = anyRequest(r)
	}
	return ev
}

func (x *pair) anyStep(r *rand.Rand) {
	switch r.Intn(24) {
	case 0:
		x.arm(1+r.Intn(2), r.Intn(150))
	case 1:
		x.crash(r.Intn(x.d.Pending() + 2))
	case 2:
		x.fill(r.Intn(2) == 0)
	case 3:
		x.start()
	case 4, 5:
		x.start()
		x.open()
	case 6, 7, 8, 9, 10, 11:
		x.take(x.anyEvent(r))
	default:
		x.do(anyRequest(r))
	}
}

// TestAnyCalls holds both stores against each other, behind every few calls.
func TestAnyCalls(t *testing.T) {
	r := rand.New(rand.NewSource(1212))
	most := 0
	for i := range 250 {
		x := newPair(t, ofWidth([]int{1, 2, 32}[i%3]), []int{300, 2000, 65536}[i%3])
		for k := range 80 {
			x.anyStep(r)
			if k%8 == 7 {
				x.look()
			}
		}
		x.start()
		x.open()
		x.look()
		most = max(most, x.s.Len())
	}
	if most < 20 {
		t.Errorf("no run has come to more than %d events", most)
	}
}

// TestAnyArguments: no call panics, each ends, and beside an error there is nothing; whatever another hand does to the disk.
func TestAnyArguments(t *testing.T) {
	r := rand.New(rand.NewSource(1213))
	numbers := []int{math.MinInt, -1, 0, 1, 2, 3, 5, 4096, 1 << 32, math.MaxInt}
	any := func() int { return numbers[r.Intn(len(numbers))] }
	for range 300 {
		d := newDisk(t, 20000)
		s := opened(t, ofWidth(2), d)
		for range 60 {
			switch r.Intn(14) {
			case 0:
				s.Take(api.Event{Place: uint32(any()), Request: anyRequest(r), Code: uint8(any()), Digest: make([]byte, r.Intn(40))})
			case 1:
				if b, e := s.Root(any()); e != api.OK && len(b) != 0 {
					t.Fatal("R2: Root")
				}
			case 2:
				if l, e := s.Path(any(), any()); e != api.OK && len(l) != 0 {
					t.Fatal("R2: Path")
				}
			case 3:
				if l, e := s.Proof(any(), any()); e != api.OK && len(l) != 0 {
					t.Fatal("R2: Proof")
				}
			case 4:
				if l, e := s.Many([]int{any(), any(), any()}[:r.Intn(4)], any()); e != api.OK && len(l) != 0 {
					t.Fatal("R2: Many")
				}
			case 5:
				s.Event(any())
				s.Entry(any())
				s.Answer(any())
			case 6:
				s.Find(api.Id{Client: uint32(any()), Number: uint32(any())})
			case 7:
				anyHand(r, d)
			case 8:
				if u, e := store.Open(ofWidth(2), d, "log"); e == api.OK {
					s = u
				} else if u != nil {
					t.Fatal("R2: a store beside an error")
				}
			default:
				if place, a, again, e := s.Do(anyRequest(r)); e != api.OK && (place != 0 || again || !sameAnswer(a, api.Answer{})) {
					t.Fatalf("R2: Do: %d, %+v, %v beside %d", place, a, again, e)
				}
			}
		}
	}
}

// anyHand does something to a log's files that is not the log's doing.
func anyHand(r *rand.Rand, d *disk.Disk) {
	name := fmt.Sprint("log.", r.Intn(3))
	switch r.Intn(8) {
	case 0:
		d.Create(name)
	case 1:
		d.Append(name, make([]byte, r.Intn(20)))
	case 2:
		d.Cut(name, r.Intn(300))
	case 3:
		d.Remove(name)
	case 4:
		d.Turn(name, r.Intn(300), uint(r.Intn(8)))
	case 5:
		d.Crash(r.Intn(40))
	case 6:
		d.Arm(1+r.Intn(3), r.Intn(120))
	default:
		d.Start()
	}
}
