package audit_test

// The chapter's words, read plainly: what the package is held against. Each goes through the whole list for each thing that it tells.

import (
	"bytes"
	"crypto/sha256"
	"fmt"
	"slices"
	"strings"
	"testing"

	"almoner/api"
	"almoner/audit"
	"almoner/quant"
	"almoner/record"
	"almoner/wire"
)

// createsWord tells how many of a list's creates there are among the first n.
func createsWord(log []api.Event, n int) uint32 {
	many := uint32(0)
	for _, e := range log[:n] {
		if e.Request.Op == api.OpCreate && e.Code == api.Done {
			many++
		}
	}
	return many
}

// speaksWord tells of which record an event speaks.
func speaksWord(log []api.Event, i int) uint32 {
	e := log[i]
	switch {
	case e.Request.Op != api.OpCreate && e.Request.Record != 0:
		return e.Request.Record
	case e.Request.Op == api.OpCreate && e.Code == api.Done:
		return createsWord(log, i+1)
	}
	return 0
}

func one(is bool) uint32 {
	if is {
		return 1
	}
	return 0
}

// lineWord is the line of an actor and a record, if there is one.
func lineWord(log []api.Event, actor, number uint32) (l audit.Line, ok bool) {
	l = audit.Line{Actor: actor, Record: number}
	for i, e := range log {
		if e.Request.Actor != actor || speaksWord(log, i) != number {
			continue
		}
		ok = true
		op, done := e.Request.Op, e.Code == api.Done
		l.Reads += one(done && (op == api.OpRead || op == api.OpHistory))
		l.Changes += one(done && (op == api.OpCreate || op == api.OpAmend || op == api.OpRedact || op == api.OpSeal))
		l.Refused += one(!done && slices.Contains([]uint8{1, 2, 3, 4, 5, 6, 7}, op))
		l.Breaks += one(done && op == api.OpBreak)
	}
	return l, ok
}

// accessWord is P20.1.
func accessWord(log []api.Event) []audit.Line {
	var actors, numbers []uint32
	for i, e := range log {
		actors, numbers = append(actors, e.Request.Actor), append(numbers, speaksWord(log, i))
	}
	var lines []audit.Line
	for _, actor := range sortedOnce(actors) {
		for _, number := range sortedOnce(numbers) {
			if l, ok := lineWord(log, actor, number); ok {
				lines = append(lines, l)
			}
		}
	}
	return lines
}

func sortedOnce(l []uint32) []uint32 {
	slices.Sort(l)
	return slices.Compact(l)
}

// trailWord is P20.2.
func trailWord(log []api.Event, number uint32) []uint32 {
	var places []uint32
	for i, e := range log {
		if speaksWord(log, i) == number {
			places = append(places, e.Place)
		}
	}
	return places
}

// seriesWord is P20.3.
func seriesWord(log []api.Event, number uint32, field string, unit uint8) ([]audit.Point, api.Errno) {
	if unit < 1 || unit > 21 {
		return nil, api.EUNIT
	}
	var points []audit.Point
	for i, e := range log {
		isChange := e.Request.Op == api.OpCreate || e.Request.Op == api.OpAmend
		for _, f := range e.Request.Fields {
			if e.Code == api.Done && isChange && speaksWord(log, i) == number && f.Name == field && f.Kind == api.FieldQuantity {
				x, errno := quant.Convert(f.Value, f.Unit, unit)
				if errno != api.OK {
					return nil, errno
				}
				points = append(points, audit.Point{Place: e.Place, Value: x})
			}
		}
	}
	return points, api.OK
}

// replayWord is P20.4.
func replayWord(width int, staff []api.Staff, log []api.Event) (answers []api.Answer, bad int) {
	bad = -1
	s := record.New(staff)
	for i, e := range log {
		a := s.Apply(e.Request, uint32(i))
		answers = append(answers, a)
		if bad < 0 && !rightWord(width, i, e, a) {
			bad = i
		}
	}
	return answers, bad
}

// rightWord tells whether an event is the one of its request, at that place of the list, answered so.
func rightWord(width, i int, e api.Event, a api.Answer) bool {
	told, err := wire.PutAnswer(a)
	if err != nil || width < 1 || width > 32 || i >= 4096 || !record.Formed(e.Request) {
		return false
	}
	digest := sha256.Sum256(told)
	return int64(e.Place) == int64(i) && e.Code == a.Code && bytes.Equal(e.Digest, digest[:width])
}

// reportWord is P20.5.
func reportWord(log []api.Event) string {
	var b strings.Builder
	for _, l := range accessWord(log) {
		fmt.Fprintf(&b, "%d %d %d %d %d %d\n", l.Actor, l.Record, l.Reads, l.Changes, l.Refused, l.Breaks)
	}
	fmt.Fprintf(&b, "events %d\n", len(log))
	return b.String()
}

// question is what a list is asked, beside the list.
type question struct {
	number uint32
	field  string
	unit   uint8
	width  int
	staff  []api.Staff
}

// seen is what was answered, to be counted.
type seen struct {
	e   api.Errno // of Series
	bad int
}

// held holds what a list tells against the words.
func held(t testing.TB, log []api.Event, q question) seen {
	t.Helper()
	if l, want := audit.Access(log), accessWord(log); !slices.Equal(l, want) {
		t.Fatalf("P20.1: of %+v: Access:\n%+v, want\n%+v", log, l, want)
	}
	if l, want := audit.Trail(log, q.number), trailWord(log, q.number); !slices.Equal(l, want) {
		t.Fatalf("P20.2: of %+v: Trail of %d: %d, want %d", log, q.number, l, want)
	}
	points, errno := audit.Series(log, q.number, q.field, q.unit)
	if want, e := seriesWord(log, q.number, q.field, q.unit); errno != e || !samePoints(points, want) {
		t.Fatalf("P20.3: of %+v: Series of %d, %q, %d: %v, %d, want %v, %d", log, q.number, q.field, q.unit, points, errno, want, e)
	}
	answers, bad := audit.Replay(q.width, q.staff, log)
	if want, wrong := replayWord(q.width, q.staff, log); bad != wrong || !sameAnswers(answers, want) {
		t.Fatalf("P20.4: of %+v: Replay with the width %d, %+v: bad is %d, want %d; the answers are\n%+v, want\n%+v", log, q.width, q.staff, bad, wrong, answers, want)
	}
	if s, want := audit.Report(log), reportWord(log); s != want {
		t.Fatalf("P20.5: of %+v: Report: %q, want %q", log, s, want)
	}
	return seen{errno, bad}
}
