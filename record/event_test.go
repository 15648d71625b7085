package record_test

import (
	"bytes"
	"crypto/sha256"
	"fmt"
	"testing"

	"almoner/api"
	"almoner/record"
	"almoner/wire"
)

// sameRequest holds nil and an empty list as one.
func sameRequest(a, b api.Request) bool {
	return a.Id == b.Id && a.Actor == b.Actor && a.Op == b.Op && a.Record == b.Record && a.Version == b.Version && a.Ward == b.Ward && a.Owner == b.Owner && a.Reason == b.Reason && sameFields(a.Fields, b.Fields)
}

// isEvent asks for the event of a request that was answered so.
func isEvent(t *testing.T, width int, place uint32, r api.Request, a api.Answer) {
	t.Helper()
	told, err := wire.PutAnswer(a)
	if err != nil {
		t.Fatalf("wire can't tell %+v: %v", a, err)
	}
	sum := sha256.Sum256(told)
	e, errno := record.Event(width, place, r, a)
	if errno != api.OK || e.Place != place || !sameRequest(e.Request, r) || e.Code != a.Code || !bytes.Equal(e.Digest, sum[:width]) {
		t.Errorf("P11.3: Event(%d, %d, %+v, %+v): %+v, %d, want the digest % x", width, place, r, a, e, errno, sum[:width])
	}
	if _, err := wire.PutEvent(e); err != nil {
		t.Errorf("P11.3: wire can't tell %+v: %v", e, err)
	}
}

// noEvent asks for an error, and nothing beside it.
func noEvent(t *testing.T, what string, want api.Errno, width int, place uint32, r api.Request, a api.Answer) {
	t.Helper()
	e, errno := record.Event(width, place, r, a)
	if errno != want {
		t.Errorf("P11.3: %s: Event(%d, %d, %+v, %+v): %d, want %d", what, width, place, r, a, errno, want)
	}
	if e.Place != 0 || !sameRequest(e.Request, api.Request{}) || e.Code != 0 || len(e.Digest) != 0 {
		t.Errorf("R2: %s: beside an error: %+v", what, e)
	}
}

// TestEventsOfARun: of each request of the examples and more, by its answer, in each width.
func TestEventsOfARun(t *testing.T) {
	l := []api.Request{create(1, n("Ada"), q(36.6)), amend(2, 1, 1, text("", "")), read(6, 1, 0), amend(3, 1, 1, gone("name")), seal(6, 1), read(2, 1, 0), breakSeal(4, 1, "heart"), history(5, 1), redact(6, 1, 1), read(9, 9, 9)}
	for i := range l {
		l[i].Id = api.Id{Client: uint32(i), Number: most32 - uint32(i)}
	}
	for place, a := range record.Answers(people, l) {
		for width := 1; width <= api.MaxWidth; width++ {
			if record.Formed(l[place]) {
				isEvent(t, width, uint32(place), l[place], a)
			} else {
				noEvent(t, "a request without a form", api.EARG, width, uint32(place), l[place], a)
			}
		}
	}
}

func TestEventsBounds(t *testing.T) {
	r, a := create(1, n("Ada")), api.Answer{Record: 1, Version: 1}
	r.Id = api.Id{Client: 8, Number: 9}
	a.Id = r.Id
	for _, width := range []int{1, 2, 31, 32} {
		for _, place := range []uint32{0, 1, 4094, 4095} {
			isEvent(t, width, place, r, a)
		}
		for _, place := range []uint32{4096, 4097, 1 << 16, 1 << 31, most32} {
			noEvent(t, "a place", api.ELIMIT, width, place, r, a)
		}
	}
	for _, place := range []uint32{0, 4095, 4096, most32} { // EARG ahead of ELIMIT
		for _, width := range []int{-1 << 63, -32, -1, 0, 33, 34, 64, 256, 257, 1 << 32, 1<<63 - 1} {
			noEvent(t, "a width", api.EARG, width, place, r, a)
		}
		for _, other := range []api.Id{{}, {Client: 8}, {Number: 9}, {Client: 9, Number: 8}, {Client: 8, Number: 10}, {Client: 7, Number: 9}, {Client: 8 + 1<<16, Number: 9}} {
			b := a
			b.Id = other
			noEvent(t, "another id", api.EARG, 4, place, r, b)
		}
		for _, bad := range []api.Request{{}, {Op: 8}, {Op: api.OpRead, Ward: 1}, {Op: api.OpSeal, Version: 2}, create(1, gone("a")), create(1, text("b", ""), text("a", "")), breakSeal(1, 1, long(65))} {
			bad.Id = r.Id
			noEvent(t, "a request without a form", api.EARG, 4, place, bad, a)
		}
		for what, b := range untold() {
			b.Id = r.Id
			if _, err := wire.PutAnswer(b); err == nil {
				t.Errorf("wire tells %+v", b)
			}
			noEvent(t, what, api.EARG, 4, place, r, b)
		}
	}
}

// untold tells answers that wire can't tell.
func untold() map[string]api.Answer {
	return map[string]api.Answer{
		"a code above the last":      {Code: api.BadUnit + 1},
		"the code 255":               {Code: 255},
		"a field that is taken away": {Fields: list(gone("a"))},
		"a field without a name":     {Fields: list(text("", "x"))},
		"a name that is too long":    {Fields: list(text(long(65), "x"))},
		"a text that is too long":    {Fields: list(text("a", long(65)))},
		"a text with -0":             {Fields: list(api.Field{Name: "a", Kind: api.FieldText, Value: float(1 << 31)})},
		"a quantity of -0":           {Fields: list(quantity("a", float(1<<31), 1))},
		"a quantity without a unit":  {Fields: list(quantity("a", 1, 0))},
		"a unit above the last":      {Fields: list(quantity("a", 1, 22))},
		"names that don't rise":      {Fields: list(text("b", ""), text("a", ""))},
		"a name twice":               {Fields: list(text("a", ""), text("a", ""))},
		"too many fields":            {Fields: many(33, "a")},
		"too many versions":          {History: make([]api.Summary, 65)},
		"a kind that is none":        {Fields: list(api.Field{Name: "a", Kind: 4})},
	}
}

// TestEventsOfAnyAnswer: an answer need not be the model's; the event has its code, and the hash of all of it.
func TestEventsOfAnyAnswer(t *testing.T) {
	r := history(1, 1)
	digests := map[string]string{}
	answers := []api.Answer{{}, {Record: 1}, {Version: 1}, {Record: most32, Version: most32}, {Fields: many(32, "a")}, {History: make([]api.Summary, 64)}, {Fields: list(text("a", "x"))}, {Fields: list(text("a", "y"))}, {History: []api.Summary{{Author: 1}}}, {History: []api.Summary{{Redacted: true}}}}
	for code := range uint8(api.BadUnit) {
		answers = append(answers, api.Answer{Code: code + 1}, api.Answer{Code: code + 1, Record: 1, Fields: list(n("Ada"))})
	}
	for _, a := range answers {
		isEvent(t, 32, 7, r, a)
		e, _ := record.Event(32, 7, r, a)
		if other, seen := digests[string(e.Digest)]; seen {
			t.Errorf("P11.3: %+v has the digest of %s", a, other)
		}
		digests[string(e.Digest)] = fmt.Sprintf("%+v", a)
	}
}

func TestAnswers(t *testing.T) {
	if l := record.Answers(people, nil); len(l) != 0 {
		t.Errorf("P11.4: of no requests: %+v", l)
	}
	if l := record.Answers(nil, []api.Request{}); len(l) != 0 {
		t.Errorf("P11.4: of no requests: %+v", l)
	}
	l := []api.Request{create(1, n("Ada")), read(9, 1, 0), amend(2, 1, 1, q(37)), {}, amend(3, 1, 2, gone("name")), amend(3, 1, 2), create(3), redact(6, 1, 2), history(5, 1), history(5, 2), read(6, 1, 0)}
	for i := range l {
		l[i].Id = api.Id{Client: uint32(i * i), Number: uint32(i)}
	}
	for n := range len(l) + 1 {
		var want []api.Answer
		s := record.New(people)
		for i, r := range l[:n] {
			want = append(want, s.Apply(r, uint32(i)))
		}
		if got := record.Answers(people, l[:n]); !sameAll(got, want) {
			t.Errorf("P11.4: of %d requests: %+v, want %+v", n, got, want)
		}
	}
	h := record.Answers(people, l)[8].History
	if len(h) != 3 || h[0].Event != 0 || h[1].Event != 2 || h[2].Event != 4 {
		t.Errorf("P11.4: the places of the events: %+v", h)
	}
	if got := record.Answers(nil, l[:1]); len(got) != 1 || got[0].Code != api.NoActor {
		t.Errorf("P11.4: without a staff: %+v", got)
	}
}
