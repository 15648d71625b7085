package bundle_test

import (
	"bytes"
	"fmt"
	"slices"
	"testing"

	"almoner/api"
	"almoner/bundle"
	"almoner/disk"
	"almoner/lamport"
	"almoner/store"
	"almoner/wire"
)

// people are the staff of chapter 10's examples.
var people = []api.Staff{
	{Actor: 1, Role: api.RoleClerk, Ward: 7},
	{Actor: 2, Role: api.RoleNurse, Ward: 7},
	{Actor: 3, Role: api.RoleDoctor, Ward: 7},
	{Actor: 4, Role: api.RoleDoctor, Ward: 8},
	{Actor: 5, Role: api.RoleAuditor},
	{Actor: 6, Role: api.RolePatient},
}

// configOf is a Config of a width and a height, with the seed 1.
func configOf(w, height int) api.Config {
	return api.Config{Width: w, Height: height, Seed: []byte{1}, Staff: slices.Clone(people), Segment: 8192, Disk: api.MaxDisk}
}

// system is a store, the keys that sign its heads, and its disk.
type system struct {
	w, height int
	s         *store.Store
	d         *disk.Disk
	keys      *lamport.Keys
}

var madeKeys = map[[2]int]*lamport.Keys{}

// keysOf tells the keys of a width, a height and the seed 1, each made once.
func keysOf(t testing.TB, w, height int) *lamport.Keys {
	t.Helper()
	name := [2]int{w, height}
	if madeKeys[name] == nil {
		k, e := lamport.New(w, height, []byte{1})
		if e != api.OK {
			t.Fatalf("lamport.New(%d, %d): %d", w, height, e)
		}
		madeKeys[name] = k
	}
	return madeKeys[name]
}

// of tells a system whose store has done requests.
func of(t testing.TB, w, height int, l []api.Request) system {
	t.Helper()
	c := configOf(w, height)
	d, e := disk.New(c.Disk)
	if e != api.OK {
		t.Fatalf("disk.New: %d", e)
	}
	s, e := store.Open(c, d, "log")
	if e != api.OK {
		t.Fatalf("store.Open: %d", e)
	}
	for i, r := range l {
		if place, _, _, e := s.Do(r); place != i || e != api.OK {
			t.Fatalf("Do(%+v): %d, %d", r, place, e)
		}
	}
	return system{w, height, s, d, keysOf(t, w, height)}
}

// numbered tells requests with ids of their own.
func numbered(l ...api.Request) []api.Request {
	for i := range l {
		l[i].Id = api.Id{Client: uint32(i % 3), Number: uint32(i)}
	}
	return l
}

// five is the chapter's example: 0 creates record 1, 1 reads it, 2 creates record 2, 3 reads record 9, 4 amends record 1.
func five() []api.Request {
	return numbered(
		api.Request{Actor: 1, Op: api.OpCreate, Ward: 7, Owner: 6},
		api.Request{Actor: 3, Op: api.OpRead, Record: 1},
		api.Request{Actor: 1, Op: api.OpCreate, Ward: 7, Owner: 6},
		api.Request{Actor: 3, Op: api.OpRead, Record: 9},
		api.Request{Actor: 3, Op: api.OpAmend, Record: 1, Version: 1},
	)
}

func text(name, s string) api.Field {
	return api.Field{Name: name, Kind: api.FieldText, Text: s}
}

func quantity(name string, x float32, unit uint8) api.Field {
	return api.Field{Name: name, Kind: api.FieldQuantity, Value: x, Unit: unit}
}

// story is requests of all operations, done and refused; records are named ahead of their making, behind it, and never made.
func story() []api.Request {
	return numbered(
		api.Request{Actor: 3, Op: api.OpRead, Record: 2},                                                                             // 0: not there yet
		api.Request{Actor: 1, Op: api.OpCreate, Ward: 7, Owner: 6, Fields: []api.Field{text("name", "Ada")}},                         // 1: record 1
		api.Request{Actor: 9, Op: api.OpCreate, Ward: 7, Owner: 6},                                                                   // 2: nobody
		api.Request{Actor: 2, Op: api.OpAmend, Record: 1, Version: 1, Fields: []api.Field{quantity("temp", 37, 11)}},                 // 3
		api.Request{Actor: 3, Op: api.OpRead},                                                                                        // 4: names none
		api.Request{Actor: 4, Op: api.OpCreate, Ward: 7, Owner: 6},                                                                   // 5: not allowed
		api.Request{Actor: 2, Op: api.OpCreate, Ward: 7, Owner: 6, Fields: []api.Field{quantity("b", 1, 1)}},                         // 6: record 2
		api.Request{Actor: 4, Op: api.OpRead, Record: 2},                                                                             // 7: not allowed
		api.Request{Actor: 4, Op: api.OpBreak, Record: 2, Reason: "heart"},                                                           // 8
		api.Request{Actor: 4, Op: api.OpRead, Record: 2},                                                                             // 9
		api.Request{Actor: 5, Op: api.OpHistory, Record: 1},                                                                          // 10
		api.Request{Actor: 6, Op: api.OpSeal, Record: 1, Version: 1},                                                                 // 11
		api.Request{Actor: 3, Op: api.OpAmend, Record: 1, Version: 2, Fields: []api.Field{{Name: "name", Kind: api.FieldGone}}},      // 12
		api.Request{Actor: 3, Op: api.OpRedact, Record: 1, Version: 1},                                                               // 13
		api.Request{Actor: 3, Op: api.OpCreate, Ward: 7, Owner: 6},                                                                   // 14: record 3
		api.Request{Actor: 5, Op: api.OpHistory, Record: 3},                                                                          // 15
		api.Request{Actor: 6, Op: api.OpAmend, Version: 1},                                                                           // 16: names none
		api.Request{Actor: 9, Op: api.OpRead, Record: 1<<32 - 1},                                                                     // 17: nobody
		api.Request{Actor: 3, Op: api.OpAmend, Record: 3, Version: 7, Fields: []api.Field{text("note", ""), quantity("temp", 1, 1)}}, // 18: no such version
	)
}

// root tells that of the first n events.
func (y system) root(n int) []byte {
	root, e := y.s.Root(n)
	if e != api.OK {
		panic(e)
	}
	return root
}

// sign tells a head that a key has signed.
func (y system) sign(key int, h api.Head) api.Signed {
	message, err := wire.PutHead(h)
	if err != nil {
		panic(err)
	}
	signature, e := y.keys.Sign(key, message)
	if e != api.OK {
		panic(e)
	}
	return api.Signed{Head: h, Key: uint32(key), Signature: signature}
}

// head tells the store's signed head of the first n, by a key that hangs on n.
func (y system) head(n int) api.Signed {
	return y.sign(n%y.keys.Len(), api.Head{Size: uint32(n), Root: y.root(n)})
}

func (y system) entries() [][]byte {
	var l [][]byte
	for place := range y.s.Len() {
		b, e := y.s.Entry(place)
		if e != api.OK {
			panic(e)
		}
		l = append(l, b)
	}
	return l
}

// make tells the bytes of a bundle that there must be.
func (y system) make(t testing.TB, signed api.Signed, places ...int) []byte {
	t.Helper()
	b, e := bundle.Make(y.s, signed, places)
	if e != api.OK || len(b) == 0 {
		t.Fatalf("P19.2: Make of size %d, %v: %d bytes, %d", signed.Head.Size, places, len(b), e)
	}
	return b
}

// check holds Check, under the system's public hash, against the words, and tells the error.
func (y system) check(t testing.TB, b []byte) api.Errno {
	t.Helper()
	return held(t, y.w, y.height, y.keys.Public(), b)
}

// answers asks for an error of Check.
func (y system) answers(t testing.TB, what string, b []byte, want api.Errno) {
	t.Helper()
	if e := y.check(t, b); e != want {
		t.Fatalf("P19.3: %s: Check: %d, want %d", what, e, want)
	}
}

// held holds Check against the words, and tells the error.
func held(t testing.TB, w, height int, public, b []byte) api.Errno {
	t.Helper()
	s, l, e := bundle.Check(w, height, public, b)
	s2, l2, e2 := checkWord(w, height, public, b)
	if e != e2 {
		t.Fatalf("P19.3: Check(%d, %d, %x, %x): %d, want %d", w, height, public, b, e, e2)
	}
	if !sameSigned(s, s2) || !slices.EqualFunc(l, l2, sameEvent) {
		t.Fatalf("P19.3: Check(%d, %d, %x, %x), answered %d, tells\n%+v, %+v, want\n%+v, %+v", w, height, public, b, e, s, l, s2, l2)
	}
	return e
}

// sameSigned holds nil and an empty list as one, so that the zero value can be held against others, too.
func sameSigned(a, b api.Signed) bool {
	return a.Head.Size == b.Head.Size && bytes.Equal(a.Head.Root, b.Head.Root) && a.Key == b.Key && bytes.Equal(a.Signature, b.Signature)
}

// sameEvent holds two events against each other by their bytes. (Those of a quantity too: no two numbers have the same.)
func sameEvent(a, b api.Event) bool {
	x, err := wire.PutEvent(a)
	y, wrong := wire.PutEvent(b)
	return err == nil && wrong == nil && bytes.Equal(x, y)
}

// turned tells a copy with another bit.
func turned(b []byte, bit int) []byte {
	c := bytes.Clone(b)
	c[bit/8] ^= 1 << (bit % 8)
	return c
}

// subsets gives all lists of places below n, rising.
func subsets(n int) [][]int {
	var all [][]int
	for mask := range 1 << n {
		var l []int
		for i := range n {
			if mask>>i&1 == 1 {
				l = append(l, i)
			}
		}
		all = append(all, l)
	}
	return all
}

// upTo tells the places below n.
func upTo(n int) []int {
	var l []int
	for i := range n {
		l = append(l, i)
	}
	return l
}

func putSigned(s api.Signed) []byte {
	b, err := wire.PutSigned(s)
	if err != nil {
		panic(fmt.Sprint("wire can't tell ", s, err))
	}
	return b
}

func putEvent(e api.Event) []byte {
	b, err := wire.PutEvent(e)
	if err != nil {
		panic(fmt.Sprint("wire can't tell ", e, err))
	}
	return b
}
