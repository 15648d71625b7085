package audit_test

import (
	"math/rand"
	"slices"
	"testing"

	"almoner/api"
	"almoner/audit"
)

const (
	reads = iota
	changes
	refused
	breaks
	nowhere
)

// lineOf tells one with a single count.
func lineOf(actor, number uint32, where int) audit.Line {
	l := audit.Line{Actor: actor, Record: number}
	switch where {
	case reads:
		l.Reads = 1
	case changes:
		l.Changes = 1
	case refused:
		l.Refused = 1
	case breaks:
		l.Breaks = 1
	}
	return l
}

// columns tells where each operation of api's counts when it is done.
func columns() map[uint8]int {
	return map[uint8]int{
		api.OpCreate: changes, api.OpAmend: changes, api.OpRead: reads, api.OpRedact: changes, api.OpHistory: reads, api.OpSeal: changes, api.OpBreak: breaks,
	}
}

// codes are all that an answer may have, and some that none has.
var codes = []uint8{api.Done, api.NoActor, api.NoForm, api.NoRecord, api.NoVersion, api.NotAllowed, api.IsSealed, api.Stale, api.IsRedacted, api.TooMany, api.BadUnit, 11, 128, 255}

// TestEachOperationCounts where it belongs: each Op that a byte can say, with each code.
func TestEachOperationCounts(t *testing.T) {
	for op := range 256 {
		for _, code := range codes {
			where, isOp := columns()[uint8(op)]
			switch {
			case !isOp:
				where = nowhere
			case code != api.Done:
				where = refused
			}
			number := uint32(5)
			if op == api.OpCreate {
				number = one(code == api.Done)
			}
			log := []api.Event{event(code, of(uint8(op), 8, 5))}
			access(t, "one event", log, lineOf(8, number, where))
			twice := lineOf(8, number, where)
			twice.Reads, twice.Changes, twice.Refused, twice.Breaks = 2*twice.Reads, 2*twice.Changes, 2*twice.Refused, 2*twice.Breaks
			if op != api.OpCreate || code != api.Done {
				access(t, "one event twice", append(log, log[0]), twice)
			} else {
				access(t, "two creates", append(log, log[0]), lineOf(8, 1, changes), lineOf(8, 2, changes))
			}
		}
	}
}

func TestAccessOfNothing(t *testing.T) {
	access(t, "nil", nil)
	access(t, "an empty list", []api.Event{})
	access(t, "an empty list with room", make([]api.Event, 0, 9))
	access(t, "zeros", make([]api.Event, 3), audit.Line{})
}

// TestLinesRise by Actor, then by Record: as numbers, whatever the order of the list.
func TestLinesRise(t *testing.T) {
	numbers := []uint32{0, 1, 2, 9, 10, 100, 255, 256, 257, 1 << 16, 1<<31 - 1, 1 << 31, 1<<31 + 1, most32 - 1, most32}
	var log []api.Event
	var want []audit.Line
	for _, actor := range numbers {
		for _, number := range numbers {
			log = append(log, event(api.Done, of(api.OpRead, actor, number)))
			want = append(want, lineOf(actor, number, reads))
		}
	}
	access(t, "rising", log, want...)
	slices.Reverse(log)
	access(t, "falling", log, want...)
	r := rand.New(rand.NewSource(2001))
	for range 50 {
		r.Shuffle(len(log), func(i, k int) { log[i], log[k] = log[k], log[i] })
		access(t, "in any order", log, want...)
	}
}

// TestLinesOfCreates: a create counts for the record that it has made, which its Request does not name, a refused one for the record 0.
func TestLinesOfCreates(t *testing.T) {
	log := []api.Event{
		event(api.Done, of(api.OpCreate, 1, 0)),
		event(api.NotAllowed, of(api.OpCreate, 1, 0)),
		event(api.TooMany, of(api.OpCreate, 2, 9)), // names a record, and makes none
		event(api.Done, of(api.OpCreate, 2, 9)),    // the record 2
		event(api.Done, of(api.OpCreate, 1, 1)),    // the record 3
		event(api.Done, of(api.OpCreate, 3, 4)),    // the record 4, as it says
		event(api.NoForm, of(api.OpCreate, 3, most32)),
	}
	access(t, "creates", log,
		lineOf(1, 0, refused), lineOf(1, 1, changes), lineOf(1, 3, changes),
		lineOf(2, 0, refused), lineOf(2, 2, changes),
		lineOf(3, 0, refused), lineOf(3, 4, changes),
	)
	trail(t, "creates", placed(log...), 0, 1, 2, 6)
	trail(t, "creates", log, 1, 0)
	trail(t, "creates", log, 2, 3)
	trail(t, "creates", log, 3, 4)
	trail(t, "creates", log, 4, 5)
	trail(t, "creates", log, 9)
	trail(t, "creates", log, most32)
}

// TestRecordIsAnother: what is done ahead of a record's making, behind it, and to one that nobody makes; ops that are none make no record.
func TestRecordIsAnother(t *testing.T) {
	log := placed(
		event(api.Done, of(api.OpRead, 1, 1)),
		event(api.Done, of(0, 1, 0)),
		event(api.Done, of(8, 1, 1)),
		event(api.Done, of(255, 2, 7)),
		event(api.Done, of(api.OpCreate, 1, 0)),
		event(api.Done, of(api.OpAmend, 1, 0)),
		event(api.Stale, of(api.OpAmend, 1, 1)),
		event(api.Done, of(api.OpBreak, 1, 2)),
		event(api.Done, of(api.OpCreate, 2, 0)),
		event(api.NoRecord, of(api.OpSeal, 0, most32)),
	)
	access(t, "others", log,
		lineOf(0, most32, refused),
		audit.Line{Actor: 1, Record: 0, Changes: 1},
		audit.Line{Actor: 1, Record: 1, Reads: 1, Changes: 1, Refused: 1},
		lineOf(1, 2, breaks), lineOf(2, 2, changes), lineOf(2, 7, nowhere),
	)
	trail(t, "others", log, 0, 1, 5)
	trail(t, "others", log, 1, 0, 2, 4, 6)
	trail(t, "others", log, 2, 7, 8)
	trail(t, "others", log, 7, 3)
	trail(t, "others", log, most32, 9)
}

// TestNothingButOpCodeActorRecord: Access and Trail look at nothing else but, to tell it, the place.
func TestNothingButOpCodeActorRecord(t *testing.T) {
	log := logOf(t, 4, more())
	want := audit.Access(log)
	other := copied(log)
	for i := range other {
		e := &other[i]
		e.Place, e.Digest = uint32(7*i), nil
		e.Request = of(e.Request.Op, e.Request.Actor, e.Request.Record, text("z", ""), text("a", ""))
		e.Request.Version, e.Request.Ward, e.Request.Owner, e.Request.Reason = 8, 9, 10, "x"
		if e.Code != api.Done {
			e.Code = 200
		}
	}
	access(t, "other things changed", other, want...)
	for number := range uint32(5) {
		var places []uint32
		for _, place := range audit.Trail(log, number) {
			places = append(places, 7*place)
		}
		trail(t, "other things changed", other, number, places...)
	}
}

// TestManyRecords: of one actor more than of another, in either order, so that what one has counted is not seen in the next one's lines.
func TestManyRecords(t *testing.T) {
	for _, many := range [][]int{{1, 300, 1}, {300, 1, 300}, {63, 64, 65, 66, 1, 2}, {64, 64, 64}, {65, 65, 1, 65}, {0, 200, 0, 3}} {
		var log []api.Event
		var want []audit.Line
		for actor, n := range many {
			for number := range n {
				where := (actor + number) % 4
				op := []uint8{api.OpHistory, api.OpRedact, api.OpSeal, api.OpBreak}[where]
				code := uint8(one(where == refused)) * api.Stale
				log = append(log, event(code, of(op, uint32(actor), uint32(3*number))))
				want = append(want, lineOf(uint32(actor), uint32(3*number), where))
			}
		}
		access(t, "many records", log, want...)
		slices.Reverse(log)
		access(t, "many records, the last one first", log, want...)
	}
}

// TestVeryLongLists end soon: of one actor with very many records and very many with one, or of as many creates.
func TestVeryLongLists(t *testing.T) {
	const many = 1 << 18
	log := make([]api.Event, 0, 2*many)
	for i := range uint32(many) {
		log = append(log, event(api.Done, of(api.OpRead, 0, i)), event(api.Done, of(api.OpRead, i+1, 7)))
	}
	l := audit.Access(log)
	if len(l) != 2*many || l[many-1] != lineOf(0, many-1, reads) || l[many] != lineOf(1, 7, reads) || l[2*many-1] != lineOf(many, 7, reads) {
		t.Errorf("P20.1: of a very long list: %d lines", len(l))
	}
	if l := audit.Trail(log, 7); len(l) != many+1 {
		t.Errorf("P20.2: of a very long list: %d places", len(l))
	}
	for i := range log {
		log[i].Request.Op = api.OpCreate
	}
	if l := audit.Access(log); len(l) != 2*many || l[2*many-1] != lineOf(many, 2*many, changes) {
		t.Errorf("P20.1: of as many creates: %d lines, the last is %+v", len(l), l[len(l)-1])
	}
}
