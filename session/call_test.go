package session_test

import (
	"fmt"
	"math"
	"slices"
	"strings"
	"testing"

	"almoner/api"
	"almoner/record"
	"almoner/session"
	"almoner/wire"
)

func TestNewOfClients(t *testing.T) {
	for client := range uint32(api.MaxClients) {
		s := made(t, client)
		waits(t, "new", s, nil)
		isDone(t, "new", s, nil)
		isOut(t, "new", s)
		for _, of := range []api.Id{{}, id(client, 0), id(client, 1), id(client, 2)} {
			hasNoAnswer(t, s, of)
			isBusy(t, s, of, api.OK, 0)
			turnsNothing(t, s, answer(of, 1), api.ENONE)
			turnsNothing(t, s, busy(of, api.EFULL), api.ENONE)
		}
		gets(t, s, creates(), id(client, 1))
	}
	for _, client := range []uint32{api.MaxClients, 17, 255, 256, 1 << 16, math.MaxInt32, 1 << 31, most32 - 1, most32} {
		if s, e := session.New(client); s != nil || e != api.EARG {
			t.Errorf("P17.1: New(%d): %v, %d, want none, EARG", client, s, e)
		}
	}
}

// many tells so many texts of rising names.
func many(n int) []api.Field {
	var l []api.Field
	for i := range n {
		l = append(l, text(fmt.Sprintf("n%02d", i), "x"))
	}
	return l
}

var minusZero = float32(math.Copysign(0, -1))

// fieldLists are those with a form in an OpCreate, with one in an OpAmend alone, and with none.
func fieldLists() (always, amending, never [][]api.Field) {
	none, inf := float32(math.NaN()), float32(math.Inf(1))
	long := strings.Repeat("a", api.MaxText)
	always = [][]api.Field{nil, make([]api.Field, 0, 3), {text("a", "")}, {text(long, long)}, {text("a", "x"), text("b", "x")}, many(api.MaxFields),
		{quantity("q", 0, 1)}, {quantity("q", -1.5, 21)}, {quantity("q", math.SmallestNonzeroFloat32, 11)}, {quantity("q", math.MaxFloat32, 11)}, {text("\xff", "\x00")}}
	amending = [][]api.Field{{gone("a")}, {text("a", "x"), gone("b"), quantity("c", 1, 1)}}
	never = [][]api.Field{many(api.MaxFields + 1), {text("", "x")}, {text(long+"a", "x")}, {text("a", long+"a")},
		{text("b", "x"), text("a", "x")}, {text("a", "x"), text("a", "x")},
		{quantity("q", none, 1)}, {quantity("q", inf, 1)}, {quantity("q", -inf, 1)}, {quantity("q", minusZero, 1)}, {quantity("q", 1, 0)}, {quantity("q", 1, 22)}, {quantity("q", 1, 255)},
		{{Name: "a"}}, {{Name: "a", Kind: 4}}, {{Name: "a", Kind: 255}},
		{{Name: "a", Kind: api.FieldText, Value: 1}}, {{Name: "a", Kind: api.FieldText, Value: minusZero}}, {{Name: "a", Kind: api.FieldText, Unit: 1}},
		{{Name: "a", Kind: api.FieldQuantity, Value: 1, Unit: 1, Text: "x"}},
		{{Name: "a", Kind: api.FieldGone, Text: "x"}}, {{Name: "a", Kind: api.FieldGone, Value: 1}}, {{Name: "a", Kind: api.FieldGone, Unit: 1}}}
	return always, amending, never
}

// withForm are requests of every operation with a form.
func withForm() []api.Request {
	long := strings.Repeat("r", api.MaxText)
	l := []api.Request{
		{Op: api.OpCreate}, creates(), {Op: api.OpCreate, Actor: most32, Ward: most32, Owner: most32},
		{Op: api.OpAmend}, {Op: api.OpAmend, Actor: 2, Record: most32, Version: most32},
		{Op: api.OpRead}, reads(1), {Op: api.OpRead, Record: most32, Version: most32},
		{Op: api.OpRedact}, {Op: api.OpRedact, Record: 1, Version: 2},
		{Op: api.OpHistory}, {Op: api.OpHistory, Record: most32},
		{Op: api.OpSeal}, {Op: api.OpSeal, Record: 1}, {Op: api.OpSeal, Record: 1, Version: 1},
		{Op: api.OpBreak}, {Op: api.OpBreak, Record: 1, Reason: "heart"}, {Op: api.OpBreak, Reason: long},
	}
	always, amending, _ := fieldLists()
	for _, fields := range always {
		l = append(l, api.Request{Op: api.OpCreate, Ward: 7, Fields: fields})
	}
	for _, fields := range slices.Concat(always, amending) {
		l = append(l, api.Request{Op: api.OpAmend, Record: 1, Version: 1, Fields: fields})
	}
	return l
}

// withoutForm are such that have none.
func withoutForm() []api.Request {
	some := []api.Field{text("a", "x")}
	l := []api.Request{
		{}, {Op: 8}, {Op: 9}, {Op: 255}, {Op: 0, Record: 1}, {Op: 8, Record: 1},
		{Op: api.OpCreate, Record: 1}, {Op: api.OpCreate, Version: 1}, {Op: api.OpCreate, Reason: "r"},
		{Op: api.OpAmend, Ward: 1}, {Op: api.OpAmend, Owner: 1}, {Op: api.OpAmend, Reason: "r"},
		{Op: api.OpRead, Ward: 1}, {Op: api.OpRead, Owner: most32}, {Op: api.OpRead, Fields: some}, {Op: api.OpRead, Reason: "r"},
		{Op: api.OpRedact, Ward: 1}, {Op: api.OpRedact, Owner: 1}, {Op: api.OpRedact, Fields: some}, {Op: api.OpRedact, Reason: "r"},
		{Op: api.OpHistory, Version: 1}, {Op: api.OpHistory, Ward: 1}, {Op: api.OpHistory, Owner: 1}, {Op: api.OpHistory, Fields: some}, {Op: api.OpHistory, Reason: "r"},
		{Op: api.OpSeal, Version: 2}, {Op: api.OpSeal, Version: most32}, {Op: api.OpSeal, Ward: 1}, {Op: api.OpSeal, Owner: 1}, {Op: api.OpSeal, Fields: some}, {Op: api.OpSeal, Reason: "r"},
		{Op: api.OpBreak, Version: 1}, {Op: api.OpBreak, Ward: 1}, {Op: api.OpBreak, Owner: 1}, {Op: api.OpBreak, Fields: some}, {Op: api.OpBreak, Reason: strings.Repeat("r", api.MaxText+1)},
	}
	_, amending, never := fieldLists()
	for _, fields := range slices.Concat(amending, never) {
		l = append(l, api.Request{Op: api.OpCreate, Ward: 7, Fields: fields})
	}
	for _, fields := range never {
		l = append(l, api.Request{Op: api.OpAmend, Record: 1, Version: 1, Fields: fields})
	}
	return l
}

// TestCallOfRequestsWithAForm: each waits, with its new id in the place of the one that it was handed in with.
func TestCallOfRequestsWithAForm(t *testing.T) {
	s := made(t, 4)
	var out []api.Request
	for i, r := range withForm() {
		r.Id = []api.Id{{}, id(4, 1), id(9, 9), id(most32, most32), id(4, 0)}[i%5]
		of := id(4, uint32(i+1))
		gets(t, s, r, of)
		out = append(out, with(r, of))
	}
	isOut(t, "with a form", s, out...)
	if n := len(s.Waiting()); n != len(out) {
		t.Errorf("P17.5: %d wait, want %d", n, len(out))
	}
}

// TestCallOfRequestsWithoutAForm: none takes a number, none is sent.
func TestCallOfRequestsWithoutAForm(t *testing.T) {
	s := made(t, 0)
	for i, r := range withoutForm() {
		r.Id = []api.Id{{}, id(0, 1), id(9, 9), id(most32, most32)}[i%4]
		refusesCall(t, s, r, api.EARG)
	}
	isOut(t, "T1: none has a form", s)
	gets(t, s, creates(), id(0, 1))
	for _, r := range withoutForm() {
		refusesCall(t, s, r, api.EARG)
	}
	gets(t, s, reads(1), id(0, 2))
	isOut(t, "T1: two have a form", s, with(creates(), id(0, 1)), with(reads(1), id(0, 2)))
}

// TestCallAsksForTheFormThatTheOthersAskFor goes through requests of every operation, with all that it uses and does not use: refused are just those that record.Formed and wire.PutRequest refuse.
func TestCallAsksForTheFormThatTheOthersAskFor(t *testing.T) {
	always, amending, never := fieldLists()
	lists := slices.Concat(always[:3], amending[:1], never[:1], always[6:7], never[6:10])
	numbers := []uint32{0, 1, 2}
	taken, refused := 0, 0
	for op := range uint8(10) {
		for i := range 81 {
			r := api.Request{Op: op, Record: numbers[i%3], Version: numbers[i/3%3], Ward: numbers[i/9%3], Owner: numbers[i/27]}
			for _, r.Fields = range lists {
				for _, r.Reason = range []string{"", "r", strings.Repeat("r", 64), strings.Repeat("r", 65)} {
					_, err := wire.PutRequest(r)
					if record.Formed(r) != (err == nil) {
						t.Fatalf("P7.5: %+v: record and wire are not of one mind", r)
					}
					s := made(t, 1)
					if err == nil {
						gets(t, s, r, id(1, 1))
						taken++
						continue
					}
					refused++
					if of, e := s.Call(r); of != (api.Id{}) || e != api.EARG {
						t.Fatalf("P17.2: Call(%+v): %v, %d, want EARG", r, of, e)
					}
				}
			}
		}
	}
	if taken < 100 || refused < 1000 {
		t.Errorf("%d are taken, %d refused", taken, refused)
	}
}

// TestCallCountsFromOneOn: the ids are one behind the other, whatever is answered or refused between them.
func TestCallCountsFromOneOn(t *testing.T) {
	s := made(t, 15)
	for n := range uint32(50) {
		if n%3 == 0 {
			refusesCall(t, s, api.Request{}, api.EARG)
		}
		gets(t, s, creates(), id(15, n+1))
		if n%2 == 0 {
			takes(t, s, answer(id(15, n/2+1), n), api.OK)
		}
		takes(t, s, busy(id(15, n+1), api.EFULL), api.OK)
	}
	var half []api.Id
	for n := uint32(26); n <= 50; n++ {
		half = append(half, id(15, n))
	}
	waits(t, "half of them are answered", s, half)
}

// TestCallOfAsManyAsThereMayBe: MaxEvents are called, one more is refused, whether they wait or are answered; without a form EARG is ahead of it.
func TestCallOfAsManyAsThereMayBe(t *testing.T) {
	for _, answered := range []uint32{0, 1, 2000, api.MaxEvents} {
		s := standing(t, 2, api.MaxEvents-1)
		for n := uint32(1); n <= min(answered, api.MaxEvents-1); n++ {
			takes(t, s, answer(id(2, n), n), api.OK)
		}
		gets(t, s, creates(), id(2, api.MaxEvents))
		if answered == api.MaxEvents {
			takes(t, s, answer(id(2, api.MaxEvents), 1), api.OK)
		}
		for range 2 {
			refusesCall(t, s, with(reads(1), id(2, 1)), api.ELIMIT)
			refusesCall(t, s, api.Request{Id: id(2, 1), Op: api.OpRead, Ward: 1}, api.EARG)
		}
		if w, d := len(s.Waiting()), len(s.Done()); w != int(api.MaxEvents-answered) || d != int(answered) {
			t.Errorf("P17.6: %d wait, %d are answered, want %d, %d", w, d, api.MaxEvents-answered, answered)
		}
		turnsNothing(t, s, answer(id(2, api.MaxEvents+1), 1), api.ENONE)
	}
}
