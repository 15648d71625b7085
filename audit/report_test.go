package audit_test

import (
	"strings"
	"testing"

	"almoner/api"
	"almoner/audit"
)

func TestReportOfNone(t *testing.T) {
	report(t, "nil", nil, "events 0\n")
	report(t, "an empty list", []api.Event{}, "events 0\n")
	report(t, "an empty list with room", make([]api.Event, 0, 5), "events 0\n")
}

// TestReportByteByByte: numbers of each length, each at each place of its line.
func TestReportByteByByte(t *testing.T) {
	b := []byte{'7', ' ', '2', ' ', '0', ' ', '0', ' ', '1', ' ', '0', 10, 'e', 'v', 'e', 'n', 't', 's', ' ', '1', 10}
	report(t, "one event", []api.Event{event(api.Stale, of(api.OpAmend, 7, 2))}, string(b))

	report(t, "an op that is none", []api.Event{event(0, of(0, 0, 0))}, "0 0 0 0 0 0\nevents 1\n")
	report(t, "very great numbers", []api.Event{event(0, of(api.OpRead, most32, most32)), event(0, of(api.OpRead, most32, 1<<31))}, "4294967295 2147483648 1 0 0 0\n4294967295 4294967295 1 0 0 0\nevents 2\n")
	var log []api.Event
	for _, c := range []struct {
		op, code uint8
		many     int
	}{{api.OpHistory, 0, 9}, {api.OpSeal, 0, 10}, {api.OpRead, 5, 123}, {api.OpBreak, 0, 1024}, {77, 3, 4}} {
		for range c.many {
			log = append(log, event(c.code, of(c.op, 12, 345)))
		}
	}
	report(t, "many of each", log, "12 345 9 10 123 1024\nevents 1170\n")
}

// TestReportOfMany: all lines in Access' order, a line each, and how many events there are in all.
func TestReportOfMany(t *testing.T) {
	log := logOf(t, 4, more())
	for n := range len(log) + 1 {
		report(t, "a beginning", log[:n], reportWord(log[:n]))
	}
	report(t, "more", log, "1 2 0 0 1 0\n1 3 0 1 0 0\n2 1 0 2 0 0\n2 2 0 0 1 0\n3 0 0 0 1 0\n3 2 0 2 1 0\n3 3 0 1 0 0\n4 0 0 0 1 0\n4 2 0 1 2 1\n5 2 1 0 0 0\n6 1 1 1 1 0\n6 2 0 2 0 0\n6 3 1 0 0 0\n9 0 0 0 1 0\n4294967295 4294967295 0 0 1 0\nevents 24\n")
	all := make([]api.Event, 5000)
	for i := range all {
		all[i] = event(0, of(api.OpRead, uint32(i), 1))
	}
	s := strings.Split(strings.TrimSuffix(audit.Report(all), "\n"), "\n")
	if len(s) != 5001 || s[0] != "0 1 1 0 0 0" || s[4999] != "4999 1 1 0 0 0" || s[5000] != "events 5000" {
		t.Errorf("P20.5: of 5000 actors: %d lines, %q", len(s), s[len(s)-1])
	}
}
