package audit_test

import (
	"bytes"
	"math/rand"
	"runtime"
	"slices"
	"strings"
	"testing"

	"almoner/api"
	"almoner/audit"
)

const roomBehind = 40

// roomy tells a copy of a list with spare room that is not empty.
func roomy[T any](l []T, spare T) []T {
	all := append(slices.Clone(l), slices.Repeat([]T{spare}, roomBehind)...)
	return all[:len(l)]
}

// scribble writes over a list and its spare room.
func scribble[T any](l []T, v T) {
	l = l[:cap(l)]
	for i := range l {
		l[i] = v
	}
}

var (
	spareField = api.Field{Name: "spare", Kind: 9, Text: "spare", Value: 9, Unit: 9}
	spareStaff = api.Staff{Actor: 9, Role: api.RoleDoctor, Ward: 7}
	spareEvent = api.Event{Place: 99, Code: 99, Request: api.Request{Actor: 99, Op: 99}}
)

// lent is a log with spare room in all its lists, and a staff.
type lent struct {
	log   []api.Event
	staff []api.Staff
}

func lend(log []api.Event, staff []api.Staff) lent {
	l := lent{roomy(log, spareEvent), roomy(staff, spareStaff)}
	for i, e := range log {
		l.log[i].Request.Fields, l.log[i].Digest = roomy(e.Request.Fields, spareField), roomy(e.Digest, 77)
	}
	return l
}

// sameEvent holds all of two events against each other.
func sameEvent(a, b api.Event) bool {
	p, q := a.Request, b.Request
	isSame := p.Id == q.Id && p.Actor == q.Actor && p.Op == q.Op && p.Record == q.Record && p.Version == q.Version && p.Ward == q.Ward && p.Owner == q.Owner && p.Reason == q.Reason
	return isSame && sameFields(p.Fields, q.Fields) && a.Place == b.Place && a.Code == b.Code && bytes.Equal(a.Digest, b.Digest)
}

// isAsLent asks whether all is as it was, spare room too.
func (l lent) isAsLent(t testing.TB, what string, log []api.Event, staff []api.Staff) {
	t.Helper()
	was := lend(log, staff)
	isSame := slices.EqualFunc(l.log[:len(log)+roomBehind], was.log[:len(log)+roomBehind], sameEvent)
	for i := range log {
		fields, digest := len(log[i].Request.Fields)+roomBehind, len(log[i].Digest)+roomBehind
		isSame = isSame && sameFields(l.log[i].Request.Fields[:fields], was.log[i].Request.Fields[:fields]) && bytes.Equal(l.log[i].Digest[:digest], was.log[i].Digest[:digest])
	}
	if !isSame || !slices.Equal(l.staff[:len(staff)+roomBehind], was.staff[:len(staff)+roomBehind]) {
		t.Errorf("R4: %s changes what it is handed", what)
	}
}

// spoil writes over all of it.
func (l lent) spoil() {
	for _, e := range l.log {
		scribble(e.Request.Fields, spareField)
		scribble(e.Digest, 0)
	}
	scribble(l.log, spareEvent)
	scribble(l.staff, spareStaff)
}

// calls are all calls, each of which puts what it answers where it belongs.
func calls(q question) map[string]func(x *told, l lent) {
	return map[string]func(x *told, l lent){
		"Access": func(x *told, l lent) { x.lines = audit.Access(l.log) },
		"Trail":  func(x *told, l lent) { x.places = audit.Trail(l.log, q.number) },
		"Series": func(x *told, l lent) { x.points, x.errno = audit.Series(l.log, q.number, q.field, q.unit) },
		"Replay": func(x *told, l lent) { x.answers, x.bad = audit.Replay(q.width, l.staff, l.log) },
		"Report": func(x *told, l lent) { x.report = audit.Report(l.log) },
	}
}

// TestWhatIsHandedIn is not changed, and not kept: all of it is written over behind the call.
func TestWhatIsHandedIn(t *testing.T) {
	r := rand.New(rand.NewSource(2009))
	logs := [][]api.Event{nil, {}, logOf(t, 4, story()), logOf(t, 4, more()), logOf(t, 4, more())[:7]}
	for range 30 {
		logs = append(logs, anyLog(r), anyMade(t, r, 4))
	}
	for _, log := range logs {
		for number := range uint32(3) {
			for _, staff := range [][]api.Staff{people, nil} {
				q := question{number: number, field: "temp", unit: 12, width: 4, staff: staff}
				want := ask(log, q)
				for what, call := range calls(q) {
					got, l := want, lend(log, staff)
					call(&got, l)
					l.isAsLent(t, what, log, staff)
					l.spoil()
					if !sameTold(got, want) {
						t.Errorf("R4: what %s answers shares memory with what was handed in", what)
					}
				}
			}
		}
	}
}

// TestWhatIsHandedOut is new memory: who writes over it changes neither what was handed in nor what is told later.
func TestWhatIsHandedOut(t *testing.T) {
	for _, log := range [][]api.Event{logOf(t, 4, story()), logOf(t, 4, more())} {
		q := question{number: 1, field: "temp", unit: 12, width: 4, staff: people}
		want := ask(log, q)
		for range 3 {
			l := lend(log, people)
			x := ask(l.log, question{number: 1, field: "temp", unit: 12, width: 4, staff: l.staff})
			kept := ask(l.log, q)
			scribble(x.lines, audit.Line{Actor: 99})
			scribble(x.places, 99)
			scribble(x.points, audit.Point{Place: 99})
			for _, a := range x.answers {
				scribble(a.Fields, spareField)
				scribble(a.History, api.Summary{Author: 99})
			}
			scribble(x.answers, api.Answer{Code: 99})
			l.isAsLent(t, "who writes over an answer", log, people)
			if !sameTold(kept, want) || !sameTold(ask(log, q), want) {
				t.Fatal("R4: answers of two calls share memory")
			}
		}
	}
}

// TestNoTwoListsShare: of one answer of Replay each list has memory of its own, spare room too.
func TestNoTwoListsShare(t *testing.T) {
	log := logOf(t, 4, append(story(), read(6, 1, 0), read(6, 1, 0), history(5, 1), history(5, 1)))
	want, _ := audit.Replay(4, people, log)
	lists := 0
	for i := range log {
		answers, _ := audit.Replay(4, people, log)
		lists += len(answers[i].Fields) + len(answers[i].History)
		scribble(answers[i].Fields, spareField)
		scribble(answers[i].History, api.Summary{Author: 99})
		for k := range answers {
			if k != i && !sameAnswer(answers[k], want[k]) {
				t.Errorf("R4: the answers %d and %d share memory", i, k)
			}
		}
		if !sameAnswer(want[i], replayed(log)[i]) {
			t.Errorf("R4: what was told of the event %d is told otherwise", i)
		}
	}
	if lists < 15 {
		t.Errorf("the answers have %d fields and versions", lists)
	}
}

func replayed(log []api.Event) []api.Answer {
	answers, _ := audit.Replay(4, people, log)
	return answers
}

// TestNothingIsKept: of long lists and long texts nothing is held on to by what is answered, nor by the package.
func TestNothingIsKept(t *testing.T) {
	var all []told
	before := heap()
	for i := range 40 {
		whole := strings.Repeat(string(rune('a'+i%9)), 1<<20)
		name := whole[:9]
		made := logOf(t, 4, []api.Request{create(3, text(name[:3], whole[9:29]), quantity(name, 1, 1), temp(37)), read(6, 1, 0), breakSeal(4, 1, whole[:7])})
		log := append(make([]api.Event, 0, 1<<13), made...)
		for actor := range uint32(100) {
			log = append(log, event(0, of(api.OpRead, actor, actor)))
		}
		all = append(all, ask(log, question{number: 1, field: name, unit: 1, width: 4, staff: people}))
	}
	kept := heap() - before
	runtime.KeepAlive(all)
	if kept > 8<<20 {
		t.Errorf("R4: %d bytes are kept of 40 lists with texts of 2^20", kept)
	}
	if x := all[39]; len(x.answers) != 103 || len(x.answers[1].Fields) != 3 || len(x.points) != 1 {
		t.Errorf("not all was told: %+v", x)
	}
}

// heap tells how many bytes are in use.
func heap() int64 {
	for range 3 {
		runtime.GC()
	}
	var m runtime.MemStats
	runtime.ReadMemStats(&m)
	return int64(m.HeapAlloc)
}
