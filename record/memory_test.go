package record_test

import (
	"bytes"
	"runtime"
	"slices"
	"strings"
	"testing"

	"almoner/api"
	"almoner/record"
)

// roomy tells a copy of a list with spare room that is not empty.
func roomy[T any](l []T, spare T) []T {
	all := append(slices.Clone(l), slices.Repeat([]T{spare}, 40)...)
	return all[:len(l)]
}

// scribble writes over a list and its spare room.
func scribble[T any](l []T, v T) {
	l = l[:cap(l)]
	for i := range l {
		l[i] = v
	}
}

var spare = api.Field{Name: "spare", Kind: 9, Text: "spare", Value: 9, Unit: 9}

// isAsHanded tells whether a list of roomy's is as it was, its spare room too.
func isAsHanded(l, was []api.Field) bool {
	return slices.Equal(l[:len(was)+40], roomy(was, spare)[:len(was)+40])
}

// script is requests with fields of all kinds.
func script() []api.Request {
	return []api.Request{
		create(3, text("b", "1"), quantity("d", 2, 11)), create(1), amend(3, 1, 1, text("a", "3"), gone("b"), text("c", "4"), quantity("d", 5, 12)), amend(3, 1, 2), amend(3, 1, 3, many(20, "z")...),
		read(6, 1, 0), read(6, 1, 1), read(6, 1, 2), breakSeal(4, 1, "x"), redact(6, 1, 2), history(5, 1), amend(3, 1, 4, text("zz", "")), read(4, 1, 5), amend(3, 1, 1, text("x", "")), read(6, 1, 3),
	}
}

// TestWhatIsHandedIn is not changed, and not kept: all lists are written over at once behind each call.
func TestWhatIsHandedIn(t *testing.T) {
	staff := roomy(people, api.Staff{Actor: 9, Role: api.RoleDoctor, Ward: 7})
	s, p := record.New(staff), &plain{staff: people}
	if !slices.Equal(staff[:46], roomy(people, api.Staff{Actor: 9, Role: api.RoleDoctor, Ward: 7})[:46]) {
		t.Error("R4: New changes the staff")
	}
	scribble(staff, api.Staff{})
	for place, r := range script() {
		was := r.Fields
		r.Fields = roomy(was, spare)
		record.Formed(r)
		got := s.Apply(r, uint32(place))
		if !isAsHanded(r.Fields, was) {
			t.Errorf("R4: Apply changes the fields of %+v", r)
		}
		scribble(r.Fields, api.Field{})
		r.Fields = was
		if want := p.apply(r, uint32(place)); !same(got, want) {
			t.Errorf("R4: %+v: %+v, want %+v", r, got, want)
		}
	}
}

// TestAnswersLists: the list of requests and the lists in it are not changed, and not kept.
func TestAnswersLists(t *testing.T) {
	l := roomy(script(), api.Request{Op: 3})
	for i := range l {
		l[i].Fields = roomy(l[i].Fields, spare)
	}
	staff := roomy(people, api.Staff{Actor: 9})
	want := record.Answers(people, script())
	got := record.Answers(staff, l)
	for i, r := range script() {
		if !isAsHanded(l[i].Fields, r.Fields) || l[i].Op != r.Op || l[i].Actor != r.Actor {
			t.Errorf("R4: Answers changes %+v", r)
		}
		scribble(l[i].Fields, api.Field{})
	}
	if !slices.Equal(staff[:6], people) || staff[:7][6].Actor != 9 || l[:len(l)+1][len(l)].Op != 3 {
		t.Error("R4: Answers changes a list")
	}
	scribble(staff, api.Staff{})
	if !sameAll(got, want) {
		t.Error("R4: what Answers tells is changed by what is handed in")
	}
	for i := range got {
		scribble(got[i].Fields, spare)
		scribble(got[i].History, api.Summary{Author: 99})
		for k := i + 1; k < len(got); k++ {
			if !same(got[k], want[k]) {
				t.Fatalf("R4: the answers %d and %d share memory", i, k)
			}
		}
	}
}

// TestWhatIsHandedOut is not changed by what comes later; and what comes later is not changed by who writes over it.
func TestWhatIsHandedOut(t *testing.T) {
	s, p := record.New(people), &plain{staff: people}
	var got, want []api.Answer
	for range 2 {
		for place, r := range script() {
			got, want = append(got, s.Apply(r, uint32(place))), append(want, p.apply(r, uint32(place)))
		}
	}
	if !sameAll(got, want) {
		t.Error("R4: what was answered is changed by what came later")
	}
	for i := range got {
		scribble(got[i].Fields, spare)
		scribble(got[i].History, api.Summary{Author: 99})
		for k := i + 1; k < len(got); k++ {
			if !same(got[k], want[k]) {
				t.Fatalf("R4: the answers %d and %d share memory", i, k)
			}
		}
	}
	for _, c := range []*record.State{s, s.Copy()} {
		for place, r := range script() {
			if r.Op != api.OpRead && r.Op != api.OpHistory {
				continue
			}
			if a, b := c.Apply(r, uint32(place)), p.apply(r, uint32(place)); !same(a, b) {
				t.Errorf("R4: %+v, behind answers that were written over: %+v, want %+v", r, a, b)
			}
		}
	}
}

func TestEventsMemory(t *testing.T) {
	for _, r := range script() {
		was := r.Fields
		r.Fields = roomy(was, spare)
		fields, versions := list(text("a", "1"), quantity("b", 2, 1)), []api.Summary{{Author: 1}, {Author: 2}}
		a := api.Answer{Fields: roomy(fields, spare), History: roomy(versions, api.Summary{Author: 9})}
		first, _ := record.Event(32, 1, r, a)
		second, errno := record.Event(32, 1, r, a)
		if errno != api.OK {
			t.Fatal(errno)
		}
		if !isAsHanded(r.Fields, was) || !isAsHanded(a.Fields, fields) || !slices.Equal(a.History[:42], roomy(versions, api.Summary{Author: 9})[:42]) {
			t.Errorf("R4: Event changes a list of %+v", r)
		}
		digest := slices.Clone(second.Digest)
		scribble(r.Fields, api.Field{})
		scribble(a.Fields, api.Field{})
		scribble(a.History, api.Summary{})
		scribble(first.Request.Fields, spare)
		scribble(first.Digest, 99)
		r.Fields = was
		if !sameRequest(second.Request, r) || !bytes.Equal(second.Digest, digest) {
			t.Errorf("R4: an event shares memory: %+v, want %+v", second, r)
		}
	}
}

// TestLongTextsAreNotKept: of a text that is a piece of a longer one the piece alone is kept.
func TestLongTextsAreNotKept(t *testing.T) {
	s := record.New(people)
	var events []api.Event
	for i := range uint32(64) {
		whole := strings.Repeat("p", 1<<20)
		name, told, reason := whole[:9], whole[9:29], whole[29:40]
		for _, r := range []api.Request{create(3, text("a", told), text(name, "")), amend(3, i+1, 1, text("a", "x"), text(whole[:10], "")), amend(3, i+1, 2, text("b", whole[70:80]), text(whole[:10], ""))} {
			if a := s.Apply(r, i); a.Code != api.Done {
				t.Fatalf("P11.2: %+v is refused: %d", r, a.Code)
			}
		}
		e, errno := record.Event(4, i, breakSeal(4, 1, reason), api.Answer{})
		f, _ := record.Event(4, i, create(4, text(name, told)), api.Answer{})
		if errno != api.OK {
			t.Fatal(errno)
		}
		events = append(events, e, f)
	}
	var m runtime.MemStats
	runtime.GC()
	runtime.ReadMemStats(&m)
	if m.HeapAlloc > 24<<20 {
		t.Errorf("language rule 8: %d bytes are kept of 64 texts of 2^20", m.HeapAlloc)
	}
	if len(events) != 128 || s.Records() != 64 {
		t.Error("not all was done")
	}
	runtime.KeepAlive(s)
	runtime.KeepAlive(events)
}
