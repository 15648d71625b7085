package shell_test

import (
	"fmt"
	"strings"
	"testing"

	"almoner/api"
	"almoner/lamport"
	"almoner/merkle"
	"almoner/record"
	"almoner/wire"
)

const (
	fourKeys = hired + "world 4 2 01 8192 65536 1|"
	grown    = "read 0 1 1 0|run 8|" // one more event, acknowledged
)

// behind asks for what a line says behind others, in a world of four keys.
func behind(t *testing.T, promise, ahead, line, want string) {
	t.Helper()
	if said := lastSaid(t, lines(fourKeys+ahead)+line); said != want {
		t.Errorf("%s: behind %q, %q says %q, want %q", promise, ahead, line, said, want)
	}
}

// TestSign: the size and the root of the tail's log, by the model and RFC 6962, of each width.
func TestSign(t *testing.T) {
	requests := []api.Request{
		{Id: api.Id{Client: 0, Number: 1}, Actor: 1, Op: api.OpCreate, Ward: 7, Owner: 6, Fields: []api.Field{text("name", "Ada")}},
		{Id: api.Id{Client: 0, Number: 2}, Actor: 4, Op: api.OpBreak, Record: 1, Reason: "heart"},
		{Id: api.Id{Client: 0, Number: 3}, Actor: 2, Op: api.OpAmend, Record: 1, Version: 1, Fields: []api.Field{quantity("temp", 36.6, 11)}},
	}
	for _, width := range []int{1, 4, 31, 32} {
		p := saidBy(t, strings.Split(fmt.Sprintf("%sworld %d 6 a1 8192 65536 1", hired, width), "|"), "sign", "create 0 1 7 6 name=Ada", "run 8", "sign", "break 0 4 1 heart", "run 8", "sign", "amend 0 2 1 1 temp:36.6_C", "run 8", "sign", "sign")
		var entries [][]byte
		for size := range 4 {
			if want := fmt.Sprintf("%d %x", size, merkle.Root(width, entries)); p[3*size][0] != want {
				t.Errorf("P21.5, T4: sign of width %d says %q, want %q", width, p[3*size], want)
			}
			if size == 3 {
				break
			}
			ev, e := record.Event(width, uint32(size), requests[size], record.Answers(people, requests)[size])
			entry, err := wire.PutEvent(ev)
			if e != api.OK || err != nil {
				t.Fatal(e, err)
			}
			entries = append(entries, entry)
		}
		keys, _ := lamport.New(width, 6, []byte{0xa1})
		public := lastSaid(t, lines(hired)+fmt.Sprintf("world %d 6 a1 8192 65536 1\npublic", width))
		if want := fmt.Sprintf("%x", keys.Public()); p[10][0] != p[9][0] || public != want {
			t.Errorf("P21.5: sign and public of width %d say %q, %q, want %q", width, p[10], public, want)
		}
	}
}

// TestCheck: the proof leads from the trusted size to N, whatever the head's size is.
func TestCheck(t *testing.T) {
	for _, x := range []struct{ ahead, line, want string }{
		// None is trusted: a proof from 0 on is empty, and fits to a head of each size.
		{"verifier|", "check 0", "error 3"}, {"verifier|", "check 1", "error 1"}, {"sign|verifier|", "check 0", "ok"}, {"sign|verifier|", "check 1", "error 1"},
		{made + "verifier|", "check 1", "error 3"}, {made + "verifier|", "check 2", "error 1"}, {made + "verifier|sign|", "check 0", "ok"}, {made + "verifier|sign|", "check 1", "ok"}, {made + "verifier|sign|", "check 2", "error 1"}, {made + "verifier|sign|", "check 4294967295", "error 1"},
		{made + grown + grown + "sign|verifier|", "check 2", "ok"}, {made + grown + grown + "sign|verifier|", "check 4", "error 1"},
		// The first one is trusted: the head is of size 3 now.
		{made + "sign|verifier|check 1|" + grown + grown + "sign|", "check 0", "error 1"}, {made + "sign|verifier|check 1|" + grown + grown + "sign|", "check 1", "error 9"}, {made + "sign|verifier|check 1|" + grown + grown + "sign|", "check 2", "error 9"},
		{made + "sign|verifier|check 1|" + grown + grown + "sign|", "check 3", "ok"}, {made + "sign|verifier|check 1|" + grown + grown + "sign|", "check 4", "error 1"},
		{made + "sign|verifier|check 1|" + grown + grown + "sign|check 3|", "check 1", "error 1"}, {made + "sign|verifier|check 1|" + grown + grown + "sign|check 3|", "check 3", "ok"},
		// The head that was signed last stays it, while the log goes on.
		{made + "sign|verifier|" + grown, "check 1", "ok"}, {made + "sign|verifier|" + grown, "check 2", "ok"}, {made + "sign|verifier|check 1|" + grown, "check 2", "error 9"}, {made + "sign|verifier|check 1|" + grown, "check 1", "ok"},
		{made + "sign|verifier|check 1|" + grown + "check 2|sign|", "check 2", "ok"},
		// Of a tail that is off.
		{made + "sign|verifier|crash 2 0|", "check 1", "error 6"}, {made + "sign|verifier|crash 2 0|", "check 9", "error 6"}, {made + "sign|verifier|crash 2 0|restart 2 0|", "check 1", "ok"}, {made + "sign|verifier|fill 2 1|crash 1 0|crash 0 0|", "check 1", "ok"},
	} {
		behind(t, "P21.5: check", x.ahead, x.line, x.want)
	}
}

// TestInclude: the event of that place, for the size that is told, to the head that is trusted.
func TestInclude(t *testing.T) {
	three := made + grown + grown
	for _, x := range []struct{ ahead, line, want string }{
		{three + "verifier|", "include 0 3", "error 15"}, {three + "verifier|sign|", "include 0 3", "error 15"}, {three + "verifier|sign|", "include 3 3", "error 1"}, {"verifier|", "include 0 0", "error 1"},
		{three + "verifier|sign|check 3|", "include 0 3", "ok"}, {three + "verifier|sign|check 3|", "include 1 3", "ok"}, {three + "verifier|sign|check 3|", "include 2 3", "ok"}, {three + "verifier|sign|check 3|", "include 3 3", "error 1"},
		{three + "verifier|sign|check 3|", "include 0 2", "error 9"}, {three + "verifier|sign|check 3|", "include 0 1", "error 9"}, {three + "verifier|sign|check 3|", "include 1 2", "error 9"}, {three + "verifier|sign|check 3|", "include 1 1", "error 1"},
		{three + "verifier|sign|check 3|", "include 0 4", "error 1"}, {three + "verifier|sign|check 3|", "include 3 4", "error 1"}, {three + "verifier|sign|check 3|", "include 4294967295 4294967295", "error 1"}, {three + "verifier|sign|check 3|", "include 0 4294967295", "error 1"},
		// The log is longer than what is trusted.
		{made + "verifier|sign|check 1|" + grown, "include 0 1", "ok"}, {made + "verifier|sign|check 1|" + grown, "include 0 2", "error 9"}, {made + "verifier|sign|check 1|" + grown, "include 1 2", "error 1"},
		{made + "verifier|sign|check 1|" + grown + "sign|", "include 1 2", "error 1"}, {made + "verifier|sign|check 1|" + grown + "sign|check 2|", "include 1 2", "ok"}, {made + "verifier|sign|check 1|" + grown + "sign|check 2|", "include 0 1", "error 9"},
		// A head of no event is trusted, and has none.
		{"sign|verifier|check 0|" + made, "include 0 1", "error 1"},
		{made + "sign|verifier|check 1|crash 2 0|", "include 0 1", "error 6"}, {made + "sign|verifier|check 1|crash 2 0|", "include 9 9", "error 6"}, {made + "sign|verifier|check 1|crash 2 0|restart 2 0|", "include 0 1", "ok"},
	} {
		behind(t, "P21.5: include", x.ahead, x.line, x.want)
	}
}

// TestAllChecks: all sizes and places, behind each length that is trusted and each that is signed, by the words; and the right ones are taken.
func TestAllChecks(t *testing.T) {
	const most = 4
	for trusted := -1; trusted <= most; trusted++ {
		for signed := max(trusted, 0); signed <= most; signed++ {
			for length := signed; length <= most; length++ {
				l := checksOf(trusted, signed, length)
				if said := held(t, strings.Join(l, "\n")); !strings.HasSuffix(said, "\nok\nok\nok\n") {
					t.Fatalf("T4: %d trusted, %d signed, %d there: %q", trusted, signed, length, said)
				}
			}
		}
	}
}

// checksOf tells lines that ask for all checks and inclusions. The last three are said to be right.
func checksOf(trusted, signed, length int) []string {
	l := append(strings.Split(hired, "|"), "world 2 6 01 8192 65536 1", "verifier")
	for size := 0; size <= length; size++ {
		if size > 0 {
			l = append(l, "create 0 1 7 6 .", "run 8")
		}
		if size == trusted {
			l = append(l, "sign", fmt.Sprintf("check %d", size))
		}
		if size == signed && size != trusted {
			l = append(l, "sign")
		}
	}
	for place := range length + 2 {
		for size := range length + 2 {
			l = append(l, fmt.Sprintf("include %d %d", place, size))
		}
	}
	for size := range length + 2 { // that of the signed head's size trusts it
		if size != signed {
			l = append(l, fmt.Sprintf("check %d", size))
		}
	}
	return append(l, "verifier", "check 0", fmt.Sprintf("check %d", signed)) // to a new one any head is led from nothing on
}

// TestKeysAreUsedUp: with each height, as many heads as it has keys; those that are bound can be signed again.
func TestKeysAreUsedUp(t *testing.T) {
	for height := range 4 {
		l := append(strings.Split(hired, "|"), fmt.Sprintf("world 4 %d 01 8192 65536 1", height))
		var signs []string
		for size := range 1<<height + 2 {
			signs = append(signs, "create 0 1 7 6 .", "run 8", "sign", "sign", fmt.Sprintf("crash 2 %d", size), "restart 2 0", "sign")
		}
		p := saidBy(t, l, signs...)
		for size := range 1<<height + 2 {
			for _, i := range []int{2, 3, 6} {
				line := p[7*size+i][0]
				if size < 1<<height && (!strings.HasPrefix(line, fmt.Sprintf("%d ", size+1)) || line != p[7*size+2][0]) || size >= 1<<height && line != "error 7" {
					t.Errorf("P21.5, T4: sign %d of height %d says %q", size, height, line)
				}
			}
		}
	}
}
