package store_test

import (
	"bytes"
	"fmt"
	"math"
	"slices"
	"strings"
	"testing"

	"almoner/api"
	"almoner/disk"
	"almoner/store"
	"almoner/wal"
	"almoner/wire"
)

// people are the staff of chapter 10's examples.
var people = []api.Staff{
	{Actor: 1, Role: api.RoleClerk, Ward: 7},
	{Actor: 2, Role: api.RoleNurse, Ward: 7},
	{Actor: 3, Role: api.RoleDoctor, Ward: 7},
	{Actor: 4, Role: api.RoleDoctor, Ward: 8},
	{Actor: 5, Role: api.RoleAuditor},
	{Actor: 6, Role: api.RolePatient},
}

// examples is the Config of the chapter's examples.
func examples() api.Config {
	return api.Config{Width: 32, Seed: []byte{1}, Staff: slices.Clone(people), Segment: 8192, Disk: 65536}
}

// ofWidth is one with hashes of so many bytes.
func ofWidth(w int) api.Config {
	c := examples()
	c.Width = w
	return c
}

func newDisk(t testing.TB, limit int) *disk.Disk {
	t.Helper()
	d, e := disk.New(limit)
	if e != api.OK {
		t.Fatalf("disk.New(%d): %d", limit, e)
	}
	return d
}

// opened tells the store of a disk's log, which must be there.
func opened(t testing.TB, c api.Config, d *disk.Disk) *store.Store {
	t.Helper()
	s, e := store.Open(c, d, "log")
	if s == nil || e != api.OK {
		t.Fatalf("P12.1: Open: %v, %d", s, e)
	}
	return s
}

// fresh tells a store on a disk of its own.
func fresh(t testing.TB, c api.Config) (*store.Store, *disk.Disk) {
	t.Helper()
	d := newDisk(t, c.Disk)
	return opened(t, c, d), d
}

// fails asks for an error of Open, and no store beside it.
func fails(t testing.TB, what string, c api.Config, d *disk.Disk, name string, want api.Errno) {
	t.Helper()
	if s, e := store.Open(c, d, name); s != nil || e != want {
		t.Errorf("P12.1: %s: Open: %v, %d, want none, %d", what, s, e, want)
	}
}

// creates is R of the examples: the request of client 0, of a number.
func creates(number uint32, fields ...api.Field) api.Request {
	return api.Request{Id: api.Id{Number: number}, Actor: 1, Op: api.OpCreate, Ward: 7, Owner: 6, Fields: fields}
}

func text(name, s string) api.Field {
	return api.Field{Name: name, Kind: api.FieldText, Text: s}
}

func quantity(name string, x float32, unit uint8) api.Field {
	return api.Field{Name: name, Kind: api.FieldQuantity, Value: x, Unit: unit}
}

// story is requests of all operations, done and refused: behind each other all codes but NoForm and TooMany are answered.
func story() []api.Request {
	l := []api.Request{
		{Actor: 1, Op: api.OpCreate, Ward: 7, Owner: 6, Fields: []api.Field{text("name", "Ada")}},
		{Actor: 2, Op: api.OpAmend, Record: 1, Version: 1, Fields: []api.Field{quantity("temp", 37, 11)}},
		{Actor: 9, Op: api.OpRead, Record: 1},
		{Actor: 3, Op: api.OpAmend, Record: 1, Version: 1, Fields: []api.Field{quantity("temp", 38, 11)}},
		{Actor: 6, Op: api.OpRead, Record: 1},
		{Actor: 6, Op: api.OpSeal, Record: 1, Version: 1},
		{Actor: 2, Op: api.OpRead, Record: 1},
		{Actor: 4, Op: api.OpRead, Record: 1},
		{Actor: 4, Op: api.OpBreak, Record: 1, Reason: "heart"},
		{Actor: 4, Op: api.OpRead, Record: 1, Version: 1},
		{Actor: 3, Op: api.OpAmend, Record: 1, Version: 2, Fields: []api.Field{{Name: "name", Kind: api.FieldGone}, text("note", "")}},
		{Actor: 3, Op: api.OpRedact, Record: 1, Version: 2},
		{Actor: 6, Op: api.OpRead, Record: 1, Version: 2},
		{Actor: 5, Op: api.OpHistory, Record: 1},
		{Actor: 5, Op: api.OpHistory, Record: 2},
		{Actor: 6, Op: api.OpRead, Record: 1, Version: 9},
		{Actor: 3, Op: api.OpCreate, Ward: 7, Owner: 6},
		{Actor: 3, Op: api.OpAmend, Record: 1, Version: 3, Fields: []api.Field{quantity("temp", 5, 8)}},
		{Actor: 6, Op: api.OpSeal, Record: 1},
		{Actor: 2, Op: api.OpRead, Record: 1},
	}
	for i := range l {
		l[i].Id = api.Id{Client: uint32(i % 3), Number: uint32(i*i + 1)}
	}
	return l
}

// tell does requests, one after the other, which must be taken as new ones.
func tell(t testing.TB, s *store.Store, l ...api.Request) {
	t.Helper()
	for _, r := range l {
		was := s.Len()
		if place, _, again, e := s.Do(r); place != was || again || e != api.OK {
			t.Fatalf("P12.2: Do(%+v): %d, %v, %d, want the place %d", r, place, again, e, was)
		}
	}
}

// refuses asks for an error of Do, zeros beside it, and a store that has what it had.
func refuses(t testing.TB, what string, s *store.Store, r api.Request, want api.Errno) {
	t.Helper()
	was := seen(s)
	if place, a, again, e := s.Do(r); place != 0 || !sameAnswer(a, api.Answer{}) || again || e != want {
		t.Errorf("P12.2: %s: Do(%+v): %d, %+v, %v, %d, want zeros and %d", what, r, place, a, again, e, want)
	}
	if now := seen(s); now != was {
		t.Errorf("P12.2: %s: the store had\n%s\nand has\n%s", what, was, now)
	}
}

// takesNot asks for an error of Take, and a store that has what it had.
func takesNot(t testing.TB, what string, s *store.Store, ev api.Event, want api.Errno) {
	t.Helper()
	was := seen(s)
	if e := s.Take(ev); e != want {
		t.Errorf("P12.3: %s: Take(%+v): %d, want %d", what, ev, e, want)
	}
	if now := seen(s); now != was {
		t.Errorf("P12.3: %s: the store had\n%s\nand has\n%s", what, was, now)
	}
}

// takes asks Take for all events of another store behind those that there are.
func takes(t testing.TB, s, from *store.Store) {
	t.Helper()
	for s.Len() < from.Len() {
		if e := s.Take(event(t, from, s.Len())); e != api.OK {
			t.Fatalf("P12.3: Take of the event %d: %d", s.Len(), e)
		}
	}
}

func event(t testing.TB, s *store.Store, place int) api.Event {
	t.Helper()
	ev, e := s.Event(place)
	if e != api.OK {
		t.Fatalf("P12.5: Event(%d): %d", place, e)
	}
	return ev
}

func entry(t testing.TB, s *store.Store, place int) []byte {
	t.Helper()
	b, e := s.Entry(place)
	if e != api.OK {
		t.Fatalf("P12.5: Entry(%d): %d", place, e)
	}
	return b
}

func entries(t testing.TB, s *store.Store) [][]byte {
	t.Helper()
	var l [][]byte
	for place := range s.Len() {
		l = append(l, entry(t, s, place))
	}
	return l
}

// bytesOf tells an event's, which must have some.
func bytesOf(t testing.TB, ev api.Event) []byte {
	t.Helper()
	b, err := wire.PutEvent(ev)
	if err != nil {
		t.Fatalf("wire can't tell %+v: %v", ev, err)
	}
	return b
}

// lay tells a disk whose log has such payloads.
func lay(t testing.TB, limit int, payloads ...[]byte) *disk.Disk {
	t.Helper()
	d := newDisk(t, limit)
	l, e := wal.Open(d, "log", 8192)
	for i := 0; i < len(payloads) && e == api.OK; i++ {
		_, e = l.Append(payloads[i])
	}
	if e != api.OK || l.Sync() != api.OK {
		t.Fatalf("a log can't be laid: %d", e)
	}
	return d
}

func sameFields(a, b []api.Field) bool {
	return slices.EqualFunc(a, b, func(f, g api.Field) bool {
		return f.Name == g.Name && f.Kind == g.Kind && f.Text == g.Text && f.Unit == g.Unit && math.Float32bits(f.Value) == math.Float32bits(g.Value)
	})
}

// sameAnswer holds nil and an empty list as one; so do the others.
func sameAnswer(a, b api.Answer) bool {
	return a.Id == b.Id && a.Code == b.Code && a.Record == b.Record && a.Version == b.Version && sameFields(a.Fields, b.Fields) && slices.Equal(a.History, b.History)
}

func sameRequest(a, b api.Request) bool {
	return a.Id == b.Id && a.Actor == b.Actor && a.Op == b.Op && a.Record == b.Record && a.Version == b.Version && a.Ward == b.Ward && a.Owner == b.Owner && a.Reason == b.Reason && sameFields(a.Fields, b.Fields)
}

func sameEvent(a, b api.Event) bool {
	return a.Place == b.Place && sameRequest(a.Request, b.Request) && a.Code == b.Code && bytes.Equal(a.Digest, b.Digest)
}

// seen tells all that a store tells, but for what the tree tells of less than all.
func seen(s *store.Store) string {
	var b strings.Builder
	fmt.Fprintln(&b, s.Len())
	for place := range s.Len() {
		ev, e := s.Event(place)
		entry, f := s.Entry(place)
		a, g := s.Answer(place)
		at, ok := s.Find(ev.Request.Id)
		path, h := s.Path(place, s.Len())
		fmt.Fprintf(&b, "%d: %+v %d, %x %d, %+v %d, %d %v, %x %d\n", place, ev, e, entry, f, a, g, at, ok, path, h)
	}
	root, e := s.Root(s.Len())
	fmt.Fprintf(&b, "%x %d\n", root, e)
	return b.String()
}

// laid tells all that lies on a disk, and what of it is safe.
func laid(d *disk.Disk) string {
	var b strings.Builder
	fmt.Fprintln(&b, d.Off(), d.Used(), d.Pending())
	for _, name := range d.Names() {
		size, _ := d.Size(name)
		safe, _ := d.Synced(name)
		all, e := d.Read(name, 0, size)
		fmt.Fprintf(&b, "%q: %d safe, %x %d\n", name, safe, all, e)
	}
	return b.String()
}
