package bundle_test

import (
	"math"
	"slices"
	"testing"

	"almoner/api"
	"almoner/bundle"
	"almoner/disk"
	"almoner/record"
	"almoner/store"
)

// records asks for what Record answers.
func records(t testing.TB, s *store.Store, number uint32, n int, want []int, e api.Errno) {
	t.Helper()
	if l, got := bundle.Record(s, number, n); !slices.Equal(l, want) || got != e {
		t.Errorf("P19.1: Record(s, %d, %d): %v, %d, want %v, %d", number, n, l, got, want, e)
	}
}

// TestStory: the requests are answered as their remarks say.
func TestStory(t *testing.T) {
	want := []uint8{
		api.NoRecord, api.Done, api.NoActor, api.Done, api.NoRecord, api.NotAllowed, api.Done, api.NotAllowed, api.Done, api.Done,
		api.Done, api.Done, api.Done, api.Done, api.Done, api.Done, api.NoRecord, api.NoActor, api.NoVersion,
	}
	for i, a := range record.Answers(people, story()) {
		if a.Code != want[i] {
			t.Errorf("the request %d is answered %d, not %d", i, a.Code, want[i])
		}
	}
}

func TestRecordOfAStory(t *testing.T) {
	y := of(t, 2, 0, story())
	n := y.s.Len()
	for number, want := range map[uint32][]int{
		1:              {1, 3, 10, 11, 12, 13}, // made by 1, then named
		2:              {0, 6, 7, 8, 9},        // named ahead of its making, and by refused requests
		3:              {14, 15, 18},
		4:              nil, // the creates that were refused have made none
		math.MaxUint32: {17},
		0:              {1, 2, 4, 5, 6, 14, 16}, // creates, done or refused, and others that name none
		9:              nil,
	} {
		records(t, y.s, number, n, want, api.OK)
		for m := range n {
			first := slices.DeleteFunc(slices.Clone(want), func(place int) bool { return place >= m })
			records(t, y.s, number, m, first, api.OK)
		}
	}
}

func TestRecordAtItsEdges(t *testing.T) {
	for _, l := range [][]api.Request{nil, five()[:1], five(), story()} {
		y := of(t, 1, 0, l)
		n := y.s.Len()
		for _, number := range []uint32{0, 1, 2, 3, 9, 1 << 31, math.MaxUint32} {
			for _, m := range []int{-1, -2, math.MinInt, math.MinInt32, n + 1, n + 2, api.MaxEvents, api.MaxEvents + 1, math.MaxInt32, math.MaxUint32, math.MaxUint32 + 1, math.MaxInt} {
				records(t, y.s, number, m, nil, api.EARG)
			}
			records(t, y.s, number, 0, nil, api.OK)
			want, _ := recordWord(l, number, n)
			records(t, y.s, number, n, want, api.OK)
		}
	}
}

// TestRecordOfRefusedCreates: one that was refused speaks of no record but 0: not of the one that comes next either.
func TestRecordOfRefusedCreates(t *testing.T) {
	creates := func(actor, ward, owner uint32) api.Request {
		return api.Request{Actor: actor, Op: api.OpCreate, Ward: ward, Owner: owner}
	}
	y := of(t, 4, 0, numbered(creates(9, 7, 6), creates(4, 7, 6), creates(1, 7, 3), creates(1, 7, 6), creates(1, 8, 6), creates(4, 8, 6)))
	records(t, y.s, 1, 6, []int{3}, api.OK)
	records(t, y.s, 2, 6, []int{5}, api.OK)
	records(t, y.s, 3, 6, nil, api.OK)
	records(t, y.s, 0, 6, []int{0, 1, 2, 3, 4, 5}, api.OK)
}

// TestRecordOfAsManyAsThereMayBe: the creates behind them are refused, with TooMany.
func TestRecordOfAsManyAsThereMayBe(t *testing.T) {
	l := slices.Repeat([]api.Request{{Actor: 1, Op: api.OpCreate, Ward: 7, Owner: 6}}, api.MaxRecords+2)
	l = numbered(append(l, api.Request{Actor: 3, Op: api.OpRead, Record: api.MaxRecords}, api.Request{Actor: 3, Op: api.OpRead, Record: api.MaxRecords + 1})...)
	y := of(t, 2, 0, l)
	n := len(l)
	records(t, y.s, 1, n, []int{0}, api.OK)
	records(t, y.s, api.MaxRecords, n, []int{api.MaxRecords - 1, n - 2}, api.OK)
	records(t, y.s, api.MaxRecords+1, n, []int{n - 1}, api.OK)
	records(t, y.s, 0, n, upTo(api.MaxRecords+2), api.OK)
}

// TestRecordIsNotAnOwner: of a request nothing but its Record counts, and of an answer nothing but a create's.
func TestRecordIsNotAnOwner(t *testing.T) {
	y := of(t, 2, 0, numbered(
		api.Request{Actor: 1, Op: api.OpCreate, Ward: 7, Owner: 6},
		api.Request{Actor: 3, Op: api.OpAmend, Record: 1, Version: 1},
		api.Request{Actor: 3, Op: api.OpRead, Record: 1, Version: 2},
		api.Request{Actor: 6, Op: api.OpSeal, Record: 1, Version: 1},
	))
	for number, want := range map[uint32][]int{0: {0}, 1: {0, 1, 2, 3}, 2: nil, 3: nil, 6: nil, 7: nil} {
		records(t, y.s, number, 4, want, api.OK)
	}
}

// TestOfTheEventsAlone: T6: what is told hangs on the log's events alone, however a store has come to them.
func TestOfTheEventsAlone(t *testing.T) {
	for _, w := range []int{1, 2, 32} {
		y := of(t, w, 1, story())
		n := y.s.Len()
		others := map[string]*store.Store{"taken": taken(t, y, people), "of another staff": taken(t, y, append(slices.Clone(people), api.Staff{Actor: 10, Role: api.RoleDoctor, Ward: 7}))}
		others["opened again"], _ = store.Open(configOf(w, 1), y.d, "log")
		more := taken(t, y, people)
		for i := range uint32(4) {
			more.Do(api.Request{Id: api.Id{Client: 9, Number: i}, Actor: 3, Op: api.OpCreate, Ward: 7, Owner: 6})
		}
		others["with more events behind"] = more
		off, d := onDisk(t, w, people)
		takes(t, y, off)
		d.Crash(0)
		off.Do(api.Request{Id: api.Id{Client: 9}, Actor: 3, Op: api.OpRead, Record: 1})
		others["cut off"] = off
		for what, s := range others {
			for number := range uint32(5) {
				want, _ := bundle.Record(y.s, number, n)
				records(t, s, number, n, want, api.OK)
				for _, size := range []int{0, 1, 7, n} {
					places := slices.DeleteFunc(slices.Clone(want), func(place int) bool { return place >= size })
					b, e := bundle.Make(s, y.head(size), places)
					if e != api.OK || !slices.Equal(b, y.make(t, y.head(size), places...)) {
						t.Errorf("T6: a store %s makes another bundle of size %d, %v: %d", what, size, places, e)
					}
				}
			}
		}
	}
}

// onDisk tells an empty store of a staff.
func onDisk(t testing.TB, w int, staff []api.Staff) (*store.Store, *disk.Disk) {
	t.Helper()
	c := configOf(w, 1)
	c.Staff = staff
	d, _ := disk.New(c.Disk)
	s, e := store.Open(c, d, "other")
	if e != api.OK {
		t.Fatal(e)
	}
	return s, d
}

// taken tells another store that has taken in a system's events.
func taken(t testing.TB, y system, staff []api.Staff) *store.Store {
	t.Helper()
	s, _ := onDisk(t, y.w, staff)
	takes(t, y, s)
	return s
}

func takes(t testing.TB, y system, s *store.Store) {
	t.Helper()
	for place := range y.s.Len() {
		event, _ := y.s.Event(place)
		if e := s.Take(event); e != api.OK {
			t.Fatalf("Take of the event %d: %d", place, e)
		}
	}
}
