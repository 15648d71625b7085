package audit_test

import (
	"testing"

	"almoner/api"
	"almoner/audit"
)

// TestExamples goes through the chapter's table, row by row.
func TestExamples(t *testing.T) {
	log := logOf(t, 4, story())
	if len(log) != 20 {
		t.Fatal("chapter 11's example has 20 requests")
	}
	for _, l := range audit.Access(log) {
		if l.Actor == 6 && l != (audit.Line{6, 1, 2, 2, 1, 0}) {
			t.Errorf("P20.1: the line of actor 6: %+v", l)
		}
	}
	access(t, "the example", log,
		audit.Line{1, 1, 0, 1, 1, 0}, audit.Line{2, 1, 0, 1, 1, 0}, audit.Line{3, 1, 0, 2, 3, 0}, audit.Line{3, 2, 0, 0, 1, 0},
		audit.Line{4, 1, 1, 0, 1, 1}, audit.Line{5, 1, 1, 0, 0, 0}, audit.Line{6, 1, 2, 2, 1, 0}, audit.Line{9, 1, 0, 0, 1, 0},
	)

	trail(t, "the example", log, 2, 19)
	trail(t, "the example", log, 0)
	trail(t, "the example", log, 1, 0, 1, 2, 3, 4, 5, 6, 7, 8, 9, 10, 11, 12, 13, 14, 15, 16, 17, 18)

	series(t, "in K", log, 1, "temp", 13, audit.Point{1, 310.15}, audit.Point{4, 312.15})
	series(t, "in F", log, 1, "temp", 12, audit.Point{1, 98.6}, audit.Point{4, 102.2})
	noSeries(t, "in g", log, 1, "temp", 1, api.EUNIT)
	series(t, "of a text", log, 1, "name", 11)

	replay(t, "the example", 4, people, log, -1)
	replay(t, "the example", 5, people, log, 0)

	report(t, "none", nil, "events 0\n")
	report(t, "the example", log, "1 1 0 1 1 0\n2 1 0 1 1 0\n3 1 0 2 3 0\n3 2 0 0 1 0\n4 1 1 0 1 1\n5 1 1 0 0 0\n6 1 2 2 1 0\n9 1 0 0 1 0\nevents 20\n")
}
