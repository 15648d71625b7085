package audit

import (
	"cmp"
	"maps"
	"slices"

	"almoner/api"
)

// Line is what an actor has done with a record.
type Line struct {
	Actor, Record, Reads, Changes, Refused, Breaks uint32
}

// Access tells who has done what, by actors, then records.
func Access(log []api.Event) []Line {
	about, shares := subjects(log), byActor(log)
	counts := tally{map[uint32]Line{}}
	var lines []Line
	for _, actor := range rising(shares) {
		for _, i := range shares[actor] {
			counts.add(about[i], log[i])
		}
		lines = counts.appendTo(lines)
		counts.empty()
	}
	return lines
}

// byActor tells where in a list each actor's events stand.
func byActor(log []api.Event) map[uint32][]int {
	shares := map[uint32][]int{}
	for i, e := range log {
		actor := e.Request.Actor
		shares[actor] = append(shares[actor], i)
	}
	return shares
}

// fewRecords is how many a map may have counted to be used again.
const fewRecords = 64

// tally counts the events of one actor, by records: then, emptied, those of the next one.
type tally struct {
	lines map[uint32]Line
}

// empty makes it ready for the next actor. A map that was great once stays slow to clear and to go through, for all the actors to come: such a one is left behind.
func (t *tally) empty() {
	if len(t.lines) > fewRecords {
		t.lines = map[uint32]Line{}
		return
	}
	clear(t.lines)
}

// add counts an event that speaks of a record. One of an Op that is none of api's counts nowhere, but has its line.
func (t *tally) add(record uint32, e api.Event) {
	l := t.lines[record]
	l.Actor, l.Record = e.Request.Actor, record
	if column := l.column(e); column != nil {
		*column++
	}
	t.lines[record] = l
}

// column tells where an event counts, if it does.
func (l *Line) column(e api.Event) *uint32 {
	op := e.Request.Op
	if op < api.OpCreate || op > api.OpBreak {
		return nil
	}
	if e.Code != api.Done {
		return &l.Refused
	}
	switch op {
	case api.OpRead, api.OpHistory:
		return &l.Reads
	case api.OpBreak:
		return &l.Breaks
	default: // OpCreate, OpAmend, OpRedact, OpSeal
		return &l.Changes
	}
}

// appendTo appends the lines, by records.
func (t *tally) appendTo(lines []Line) []Line {
	for _, record := range rising(t.lines) {
		lines = append(lines, t.lines[record])
	}
	return lines
}

// rising tells the keys of a map, sorted: a map is gone through in any order.
func rising[K cmp.Ordered, V any](m map[K]V) []K {
	return slices.Sorted(maps.Keys(m))
}
