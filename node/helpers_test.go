package node_test

import (
	"fmt"
	"slices"
	"strings"
	"testing"

	"almoner/api"
	"almoner/disk"
	"almoner/keyring"
	"almoner/node"
	"almoner/store"
	"almoner/wal"
	"almoner/wire"
)

// people are the staff of chapter 10's examples.
var people = []api.Staff{
	{Actor: 1, Role: api.RoleClerk, Ward: 7},
	{Actor: 2, Role: api.RoleNurse, Ward: 7},
	{Actor: 3, Role: api.RoleDoctor, Ward: 7},
	{Actor: 4, Role: api.RoleDoctor, Ward: 8},
	{Actor: 5, Role: api.RoleAuditor},
	{Actor: 6, Role: api.RolePatient},
}

var places = []int{node.Head, node.Middle, node.Tail}

// examples is the Config of the chapter's examples.
func examples() api.Config { return sized(32, 2) }

// small is one whose keys are soon made.
func small() api.Config { return sized(2, 1) }

func sized(width, height int) api.Config {
	return api.Config{Width: width, Height: height, Seed: []byte{1}, Staff: slices.Clone(people), Segment: 8192, Disk: 65536}
}

func newDisk(t testing.TB, limit int) *disk.Disk {
	t.Helper()
	d, e := disk.New(limit)
	if e != api.OK {
		t.Fatalf("disk.New(%d): %d", limit, e)
	}
	return d
}

// opened tells the node of a disk, which must be there.
func opened(t testing.TB, c api.Config, place int, d *disk.Disk) *node.Node {
	t.Helper()
	n, e := node.Open(c, place, d)
	if n == nil || e != api.OK {
		t.Fatalf("P15.1: Open at %d: %v, %d", place, n, e)
	}
	return n
}

// fresh tells a node on a new disk.
func fresh(t testing.TB, c api.Config, place int) (*node.Node, *disk.Disk) {
	t.Helper()
	d := newDisk(t, c.Disk)
	return opened(t, c, place, d), d
}

// fails asks for an error of Open, and no node beside it.
func fails(t testing.TB, what string, c api.Config, place int, d *disk.Disk, want api.Errno) {
	t.Helper()
	if n, e := node.Open(c, place, d); n != nil || e != want {
		t.Errorf("P15.1: %s: Open at %d: %v, %d, want none, %d", what, place, n, e, want)
	}
}

// told tells a store, on a disk, that has done requests.
func told(t testing.TB, c api.Config, d *disk.Disk, l ...api.Request) *store.Store {
	t.Helper()
	s, e := store.Open(c, d, "log")
	if e != api.OK {
		t.Fatalf("store.Open: %d", e)
	}
	for _, r := range l {
		if _, _, again, e := s.Do(r); again || e != api.OK {
			t.Fatalf("store.Do(%+v): %v, %d", r, again, e)
		}
	}
	return s
}

// standing tells a node, opened over a disk, that has the events of requests.
func standing(t testing.TB, c api.Config, place int, l ...api.Request) (*node.Node, *disk.Disk) {
	t.Helper()
	d := newDisk(t, c.Disk)
	told(t, c, d, l...)
	return opened(t, c, place, d), d
}

// knowing tells a head or a middle that knows its successor's length.
func knowing(t testing.TB, c api.Config, place, next int, l ...api.Request) (*node.Node, *disk.Disk) {
	t.Helper()
	n, d := standing(t, c, place, l...)
	n.Take(place+1, have(next))
	if n.Next() != next {
		t.Fatalf("P15.3: behind Have %d: Next is %d", next, n.Next())
	}
	return n, d
}

// eventsOf tells those that requests make, one behind the other.
func eventsOf(t testing.TB, c api.Config, l ...api.Request) []api.Event {
	t.Helper()
	s := told(t, c, newDisk(t, c.Disk), l...)
	var all []api.Event
	for place := range s.Len() {
		ev, _ := s.Event(place)
		all = append(all, ev)
	}
	return all
}

// creates is R of the examples: a request of a client, of a number.
func creates(client, number uint32, fields ...api.Field) api.Request {
	return api.Request{Id: api.Id{Client: client, Number: number}, Actor: 1, Op: api.OpCreate, Ward: 7, Owner: 6, Fields: fields}
}

func many(n int) []api.Request {
	var l []api.Request
	for i := range n {
		l = append(l, creates(0, uint32(i+1)))
	}
	return l
}

func text(name, s string) api.Field {
	return api.Field{Name: name, Kind: api.FieldText, Text: s}
}

func quantity(name string, x float32, unit uint8) api.Field {
	return api.Field{Name: name, Kind: api.FieldQuantity, Value: x, Unit: unit}
}

// story is requests of all operations, done and refused, of three clients: their answers have fields and histories.
func story() []api.Request {
	l := []api.Request{
		{Actor: 1, Op: api.OpCreate, Ward: 7, Owner: 6, Fields: []api.Field{text("name", "Ada")}},
		{Actor: 2, Op: api.OpAmend, Record: 1, Version: 1, Fields: []api.Field{quantity("temp", 37, 11)}},
		{Actor: 9, Op: api.OpRead, Record: 1},
		{Actor: 6, Op: api.OpRead, Record: 1},
		{Actor: 6, Op: api.OpSeal, Record: 1, Version: 1},
		{Actor: 2, Op: api.OpRead, Record: 1},
		{Actor: 4, Op: api.OpBreak, Record: 1, Reason: "heart"},
		{Actor: 4, Op: api.OpRead, Record: 1, Version: 1},
		{Actor: 3, Op: api.OpAmend, Record: 1, Version: 2, Fields: []api.Field{{Name: "name", Kind: api.FieldGone}, text("note", "")}},
		{Actor: 3, Op: api.OpRedact, Record: 1, Version: 2},
		{Actor: 5, Op: api.OpHistory, Record: 1},
	}
	for i := range l {
		l[i].Id = api.Id{Client: uint32(i % 3), Number: uint32(i*i + 1)}
	}
	return l
}

// client is the address of an id's.
func client(id api.Id) int { return node.Clients + int(id.Client) }

func request(r api.Request) api.Message {
	return api.Message{Kind: api.MsgRequest, Request: r}
}

func ask(id api.Id) api.Message { return api.Message{Kind: api.MsgAsk, Id: id} }

func answer(a api.Answer) api.Message {
	return api.Message{Kind: api.MsgAnswer, Answer: a}
}

func busy(id api.Id, e api.Errno) api.Message {
	return api.Message{Kind: api.MsgBusy, Id: id, Code: uint8(e)}
}

func give(ev api.Event) api.Message { return api.Message{Kind: api.MsgGive, Event: ev} }

func have(length int) api.Message {
	return api.Message{Kind: api.MsgHave, Length: uint32(length)}
}

func what() api.Message { return api.Message{Kind: api.MsgWhat} }

func out(to int, m api.Message) node.Out { return node.Out{To: to, Message: m} }

// sends asks for just what is sent, each field of it. (Told as a text, nil and an empty list are one.)
func sends(t testing.TB, why string, got []node.Out, want ...node.Out) {
	t.Helper()
	if fmt.Sprintf("%+v", got) != fmt.Sprintf("%+v", want) {
		t.Errorf("%s: sent %+v, want %+v", why, got, want)
	}
	for _, o := range got {
		if _, err := wire.PutMessage(o.Message); err != nil {
			t.Errorf("%s: chapter 7 has no bytes for %+v: %v", why, o.Message, err)
		}
	}
}

// holds asks for Next and for the events.
func holds(t testing.TB, why string, n *node.Node, next int, want ...api.Event) {
	t.Helper()
	if n.Next() != next {
		t.Errorf("%s: Next is %d, want %d", why, n.Next(), next)
	}
	if n.Length() != len(want) {
		t.Errorf("%s: Length is %d, want %d", why, n.Length(), len(want))
	}
	if got := n.Events(); fmt.Sprintf("%+v", got) != fmt.Sprintf("%+v", want) {
		t.Errorf("%s: Events: %+v, want %+v", why, got, want)
	}
}

// seen tells all that a node tells of itself without signing.
func seen(n *node.Node) string {
	var b strings.Builder
	fmt.Fprintf(&b, "%d events, next %d, %d keys: %+v\n", n.Length(), n.Next(), n.Keys(), n.Events())
	for size := range n.Length() + 1 {
		for m := range size + 1 {
			p, e := n.Inclusion(m, size)
			q, f := n.Consistency(m, size)
			fmt.Fprintf(&b, "%x %d, %x %d\n", p, e, q, f)
		}
	}
	return b.String()
}

// laid tells all that lies on a disk, and what of it is safe.
func laid(d *disk.Disk) string {
	var b strings.Builder
	fmt.Fprintln(&b, d.Off(), d.Used(), d.Pending(), d.Writes())
	for _, name := range d.Names() {
		size, _ := d.Size(name)
		safe, _ := d.Synced(name)
		all, e := d.Read(name, 0, size)
		fmt.Fprintf(&b, "%q: %d safe, %x %d\n", name, safe, all, e)
	}
	return b.String()
}

// durable tells the events that are synced on a disk that is on: those of a disk that has its safe bytes alone.
func durable(t testing.TB, c api.Config, d *disk.Disk) []api.Event {
	t.Helper()
	other := newDisk(t, api.MaxDisk)
	for _, name := range d.Names() {
		safe, _ := d.Synced(name)
		b, e := d.Read(name, 0, safe)
		if e != api.OK || other.Create(name) != api.OK || other.Append(name, b) != api.OK {
			t.Fatalf("%s can't be copied: %d", name, e)
		}
	}
	s, e := store.Open(c, other, "log")
	if e != api.OK {
		t.Fatalf("what is synced can't be opened: %d", e)
	}
	var all []api.Event
	for place := range s.Len() {
		ev, _ := s.Event(place)
		all = append(all, ev)
	}
	return all
}

// lay puts payloads into a log on a disk.
func lay(t testing.TB, d *disk.Disk, name string, payloads ...[]byte) {
	t.Helper()
	l, e := wal.Open(d, name, 8192)
	for i := 0; i < len(payloads) && e == api.OK; i++ {
		_, e = l.Append(payloads[i])
	}
	if e != api.OK || l.Sync() != api.OK {
		t.Fatalf("a log can't be laid: %d", e)
	}
}

// bind binds keys of a disk's ring to heads of such sizes.
func bind(t testing.TB, c api.Config, d *disk.Disk, sizes ...uint32) {
	t.Helper()
	r, e := keyring.Open(c, d, "keys")
	if e != api.OK {
		t.Fatalf("keyring.Open: %d", e)
	}
	for _, size := range sizes {
		if _, e := r.Sign(api.Head{Size: size, Root: make([]byte, c.Width)}); e != api.OK {
			t.Fatalf("keyring.Sign: %d", e)
		}
	}
}
