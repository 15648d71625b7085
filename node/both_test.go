package node_test

import (
	"bytes"
	"fmt"
	"math"
	"math/rand"
	"slices"
	"strings"
	"testing"

	"almoner/api"
	"almoner/disk"
	"almoner/node"
	"almoner/record"
)

// pair is a node and the words' one, on disks that are treated alike.
type pair struct {
	t     *testing.T
	c     api.Config
	place int
	d, e  *disk.Disk
	n     *node.Node
	p     *plain
	said  []string
}

func newPair(t *testing.T, c api.Config, place, limit int) *pair {
	t.Helper()
	x := &pair{t: t, c: c, place: place, d: newDisk(t, limit), e: newDisk(t, limit)}
	x.open()
	return x
}

// say keeps a call, and fails if the two answers are not one.
func (x *pair) say(call string, got, want any) {
	x.t.Helper()
	x.said = append(x.said, call)
	if fmt.Sprintf("%+v", got) != fmt.Sprintf("%+v", want) {
		x.t.Fatalf("at %d: %s\nanswered %+v, want %+v", x.place, strings.Join(x.said, "; "), got, want)
	}
}

// open opens both; where that is refused both stay what they were.
func (x *pair) open() {
	x.t.Helper()
	n, e := node.Open(x.c, x.place, x.d)
	p, f := openPlain(x.c, x.place, x.e)
	x.say("Open", e, f)
	if e == api.OK {
		x.n, x.p = n, p
	} else if n != nil {
		x.t.Fatalf("%v: R2: a node beside an error", x.said)
	}
}

// take hands a message to both, and looks at P15.6: nothing sinks.
func (x *pair) take(from int, m api.Message) {
	x.t.Helper()
	was, next := x.n.Events(), x.n.Next()
	x.say(fmt.Sprintf("Take(%d, %+v)", from, m), x.n.Take(from, m), x.p.take(from, m))
	now := x.n.Events()
	if len(now) < len(was) || fmt.Sprint(now[:len(was)]) != fmt.Sprint(was) || x.n.Next() < next {
		x.t.Fatalf("P15.6: %v: Next was %d and is %d, the events were %v and are %v", x.said, next, x.n.Next(), was, now)
	}
}

func (x *pair) tick() {
	x.t.Helper()
	x.say("Tick", x.n.Tick(), x.p.tick())
}

func (x *pair) head() {
	x.t.Helper()
	s, e := x.n.Head()
	want, f := x.p.head()
	x.say("Head", []any{s, e}, []any{want, f})
}

// disks does the same to both.
func (x *pair) disks(call string, do func(d *disk.Disk)) {
	do(x.d)
	do(x.e)
	x.said = append(x.said, call)
}

func (x *pair) arm(n, b int) {
	x.disks(fmt.Sprintf("Arm(%d, %d)", n, b), func(d *disk.Disk) { d.Arm(n, b) })
}

func (x *pair) crash(keep int) {
	x.disks(fmt.Sprintf("Crash(%d)", keep), func(d *disk.Disk) { d.Crash(keep) })
}

func (x *pair) fill(full bool) {
	x.disks(fmt.Sprintf("Fill(%v)", full), func(d *disk.Disk) { d.Fill(full) })
}

func (x *pair) start() { x.disks("Start", func(d *disk.Disk) { d.Start() }) }

// look asks for all that can be seen of both.
func (x *pair) look() {
	x.t.Helper()
	kept := x.said
	x.say("the disk", laid(x.d), laid(x.e))
	x.say("Length", x.n.Length(), x.p.s.Len())
	x.say("Events", x.n.Events(), x.p.events())
	x.say("Next", x.n.Next(), x.p.next)
	x.say("Keys", x.n.Keys(), x.p.keys())
	size := x.n.Length()
	for a := -1; a <= size+1; a++ {
		got, e := x.n.Inclusion(a, size)
		want, f := x.p.inclusion(a, size)
		x.say(fmt.Sprintf("Inclusion(%d, %d)", a, size), []any{got, e}, []any{want, f})
		got, e = x.n.Consistency(a, size)
		want, f = x.p.consistency(a, size)
		x.say(fmt.Sprintf("Consistency(%d, %d)", a, size), []any{got, e}, []any{want, f})
	}
	x.said = kept
}

// next tells the event that is right for a request, at a node behind its events.
func (x *pair) next(r api.Request) api.Event {
	var l []api.Request
	for _, ev := range x.p.events() {
		l = append(l, ev.Request)
	}
	answers := record.Answers(x.c.Staff, append(l, r))
	ev, _ := record.Event(x.c.Width, uint32(len(l)), r, answers[len(l)])
	return ev
}

// TestAllShortScripts goes through all scripts of three calls out of some, at each node, each with a look at the end, and one behind opening again.
func TestAllShortScripts(t *testing.T) {
	calls := []func(x *pair){
		func(x *pair) { x.take(10, request(creates(0, 1))) },
		func(x *pair) { x.take(11, request(creates(1, 1))) },
		func(x *pair) { x.take(x.place-1, give(x.next(creates(0, 1)))) },
		func(x *pair) { x.take(x.place-1, give(x.next(creates(1, 1)))) },
		func(x *pair) { x.take(x.place-1, what()) },
		func(x *pair) { x.take(x.place+1, have(0)) },
		func(x *pair) { x.take(x.place+1, have(1)) },
		func(x *pair) { x.take(x.place+1, have(2)) },
		func(x *pair) { x.take(10, ask(api.Id{Number: 0})) },
		func(x *pair) { x.take(11, ask(api.Id{Client: 1, Number: 1})) },
		func(x *pair) { x.tick() },
		func(x *pair) { x.head() },
		func(x *pair) { x.arm(1, 30) },
		func(x *pair) { x.arm(1, 1000) },
		func(x *pair) { x.crash(1000) },
		func(x *pair) { x.start() },
		func(x *pair) { x.open() },
		func(x *pair) { x.fill(true) },
		func(x *pair) { x.fill(false) },
	}
	begin := func(place int) *pair {
		x := newPair(t, sized(1, 0), place, 65536)
		if place == node.Head {
			x.take(10, request(creates(0, 0)))
		} else {
			x.take(place-1, give(x.next(creates(0, 0))))
		}
		return x
	}
	for _, place := range places {
		for script := range len(calls) * len(calls) * len(calls) {
			x := begin(place)
			for _, by := range []int{1, len(calls), len(calls) * len(calls)} {
				calls[script/by%len(calls)](x)
			}
			x.look()
			x.crash(40)
			x.start()
			x.open()
			x.look()
		}
	}
}

// anyFields tells some, most often of a form.
func anyFields(r *rand.Rand) []api.Field {
	var l []api.Field
	for _, name := range []string{"a", "b", "c"} {
		switch r.Intn(6) {
		case 0:
			l = append(l, text(name, strings.Repeat("x", r.Intn(66))))
		case 1:
			l = append(l, quantity(name, float32(r.Intn(5)), uint8(r.Intn(22))))
		case 2:
			l = append(l, api.Field{Name: name, Kind: api.FieldGone})
		}
	}
	return l
}

// anyRequest tells one out of few ids, most often of a form.
func anyRequest(r *rand.Rand) api.Request {
	q := api.Request{Id: anyId(r), Actor: uint32(r.Intn(8)), Op: uint8(r.Intn(8))}
	if q.Op != api.OpCreate {
		q.Record = uint32(r.Intn(3))
	}
	switch q.Op {
	case api.OpCreate:
		q.Ward, q.Owner, q.Fields = uint32(7+r.Intn(2)), uint32(5+r.Intn(2)), anyFields(r)
	case api.OpAmend:
		q.Version, q.Fields = uint32(r.Intn(4)), anyFields(r)
	case api.OpRead, api.OpRedact:
		q.Version = uint32(r.Intn(4))
	case api.OpSeal:
		q.Version = uint32(r.Intn(3))
	case api.OpBreak:
		q.Reason = strings.Repeat("r", r.Intn(66))
	}
	return q
}

func anyId(r *rand.Rand) api.Id {
	return api.Id{Client: uint32(r.Intn(3)), Number: uint32(r.Intn(30))}
}

// anyEvent tells one, right behind a node's events or not.
func (x *pair) anyEvent(r *rand.Rand) api.Event {
	if n := x.n.Length(); n > 0 && r.Intn(4) == 0 {
		return x.n.Events()[r.Intn(n)]
	}
	ev := x.next(anyRequest(r))
	ev.Digest = bytes.Clone(ev.Digest)
	switch r.Intn(10) {
	case 0:
		ev.Place = uint32(r.Intn(20))
	case 1:
		ev.Code = uint8(r.Intn(12))
	case 2:
		if len(ev.Digest) > 0 {
			ev.Digest[r.Intn(len(ev.Digest))] ^= 1 << r.Intn(8)
		}
	case 3:
		ev.Request = anyRequest(r)
	case 4:
		ev.Place = math.MaxUint32
	}
	return ev
}

// anyMessage tells one of any kind; sometimes with more than its kind uses.
func (x *pair) anyMessage(r *rand.Rand) api.Message {
	m := api.Message{Kind: uint8(r.Intn(9))}
	switch r.Intn(20) {
	case 0:
		m.Kind = uint8(r.Intn(256))
	case 1, 2, 3, 4, 5, 6, 7:
		m.Kind = []uint8{api.MsgRequest, api.MsgGive, api.MsgGive}[x.place] // so that the events grow
	}
	beside := r.Intn(5) == 0
	if m.Kind == api.MsgRequest || beside {
		m.Request = anyRequest(r)
	}
	if m.Kind == api.MsgAsk || m.Kind == api.MsgBusy || beside {
		m.Id = anyId(r)
	}
	if m.Kind == api.MsgGive || beside {
		m.Event = x.anyEvent(r)
	}
	if m.Kind == api.MsgHave || beside {
		m.Length = uint32(r.Intn(x.n.Length() + 2))
	}
	if r.Intn(30) == 0 {
		m.Length = math.MaxUint32 - uint32(r.Intn(2))
	}
	return m
}

// anyFrom tells an address, most often one of whom such a message is taken.
func (x *pair) anyFrom(r *rand.Rand, m api.Message) int {
	if r.Intn(6) == 0 {
		return addresses[r.Intn(len(addresses))]
	}
	switch m.Kind {
	case api.MsgRequest:
		return client(m.Request.Id)
	case api.MsgAsk:
		return client(m.Id)
	case api.MsgHave:
		return x.place + 1
	}
	return x.place - 1
}

func (x *pair) anyStep(r *rand.Rand) {
	switch r.Intn(40) {
	case 0:
		x.arm(1+r.Intn(2), r.Intn(150))
	case 1:
		x.crash(r.Intn(x.d.Pending() + 2))
	case 2:
		x.fill(r.Intn(2) == 0)
	case 3:
		x.start()
	case 4, 5, 6:
		x.start()
		x.open()
	case 7, 8:
		x.head()
	case 9, 10, 11, 12:
		x.tick()
	default:
		m := x.anyMessage(r)
		x.take(x.anyFrom(r, m), m)
	}
}

// TestAnyCalls holds both nodes against each other, behind every few calls.
func TestAnyCalls(t *testing.T) {
	r := rand.New(rand.NewSource(1515))
	var most [3]int
	for i := range 400 {
		place := i % 3
		x := newPair(t, sized([]int{1, 2, 32}[i/3%3], i%2), place, []int{400, 2000, 65536, 65536}[i%4])
		for k := range 80 {
			x.anyStep(r)
			if k%10 == 9 {
				x.look()
			}
		}
		x.start()
		x.open()
		x.look()
		most[place] = max(most[place], x.n.Length())
	}
	if slices.Min(most[:]) < 8 {
		t.Errorf("no run has come to more than %v events", most)
	}
}

// TestEachMessageTwice: two of the same message, one behind the other, do what one does.
func TestEachMessageTwice(t *testing.T) {
	r := rand.New(rand.NewSource(1516))
	for i := range 200 {
		limit := []int{600, 65536}[i%2]
		x := newPair(t, sized(2, 0), i%3, limit)
		d := newDisk(t, limit)
		twice := opened(t, x.c, x.place, d)
		for range 60 {
			if r.Intn(25) == 0 {
				full := r.Intn(2) == 0
				x.fill(full)
				d.Fill(full)
			}
			if r.Intn(60) == 0 {
				torn := r.Intn(100)
				x.arm(1, torn)
				d.Arm(1, torn)
			}
			m := x.anyMessage(r)
			from := x.anyFrom(r, m)
			x.take(from, m)
			for range 2 {
				twice.Take(from, m)
			}
			if seen(twice) != seen(x.n) || laid(d) != laid(x.d) {
				t.Fatalf("P15.6: at %d, each of these twice: %v: it is\n%s\nwant\n%s", x.place, x.said, seen(twice), seen(x.n))
			}
		}
	}
}

// TestAnyArguments: no call panics, each ends, and beside an error there is nothing; whatever another hand does to the disk.
func TestAnyArguments(t *testing.T) {
	r := rand.New(rand.NewSource(1517))
	for i := range 300 {
		x := newPair(t, sized(2, 1), i%3, 20000)
		n, d := x.n, x.d
		for range 80 {
			a, b := anyNumbers[r.Intn(len(anyNumbers))], anyNumbers[r.Intn(len(anyNumbers))]
			switch r.Intn(10) {
			case 0:
				n.Tick()
			case 1:
				if s, e := n.Head(); e != api.OK && fmt.Sprint(s) != fmt.Sprint(api.Signed{}) {
					t.Fatalf("R2: Head: %v beside %d", s, e)
				}
			case 2:
				if p, e := n.Inclusion(a, b); e != api.OK && len(p.Hashes) != 0 {
					t.Fatal("R2: Inclusion")
				}
			case 3:
				if p, e := n.Consistency(a, b); e != api.OK && len(p.Hashes) != 0 {
					t.Fatal("R2: Consistency")
				}
			case 4:
				anyHand(r, d)
			case 5:
				if u, e := node.Open(x.c, r.Intn(5)-1, d); e != api.OK && u != nil {
					t.Fatal("R2: a node beside an error")
				}
			default:
				n.Take(a, api.Message{Kind: uint8(r.Intn(256)), Length: r.Uint32()})
				m := x.anyMessage(r)
				n.Take(x.anyFrom(r, m), m)
			}
		}
	}
}

// anyHand does something to a node's files that is not its own doing.
func anyHand(r *rand.Rand, d *disk.Disk) {
	name := fmt.Sprint([]string{"log.", "keys."}[r.Intn(2)], r.Intn(2))
	switch r.Intn(8) {
	case 0:
		d.Create(name)
	case 1:
		d.Append(name, make([]byte, r.Intn(20)))
	case 2:
		d.Cut(name, r.Intn(300))
	case 3:
		d.Remove(name)
	case 4:
		d.Turn(name, r.Intn(300), uint(r.Intn(8)))
	case 5:
		d.Crash(r.Intn(40))
	case 6:
		d.Arm(1+r.Intn(3), r.Intn(120))
	default:
		d.Start()
	}
}
