package world_test

import (
	"fmt"
	"slices"
	"testing"

	"almoner/api"
	"almoner/world"
)

const roomBehind = 9

var (
	spareField   = api.Field{Name: "spare", Kind: 9, Text: "spare", Value: 9, Unit: 9}
	spareSummary = api.Summary{Author: 99, Event: 99, Fields: 99, Redacted: true}
	sparePerson  = api.Staff{Actor: 9, Role: api.RoleDoctor, Ward: 7}
	spareId      = api.Id{Client: 99, Number: 99}
)

// roomy tells a copy of a list with spare room that is not empty.
func roomy[T any](l []T, spare T) []T {
	all := append(slices.Clone(l), slices.Repeat([]T{spare}, roomBehind)...)
	return all[:len(l)]
}

// isAsHanded tells whether a list of roomy's is as it was, its spare room too.
func isAsHanded[T comparable](l, was []T, spare T) bool {
	n := len(was) + roomBehind
	return slices.Equal(l[:n], roomy(was, spare)[:n])
}

// scribble writes over a list and its spare room.
func scribble[T any](l []T, v T) {
	l = l[:cap(l)]
	for i := range l {
		l[i] = v
	}
}

// The spoilers write over all lists in what they are handed.

func spoilEvent(ev api.Event) {
	scribble(ev.Request.Fields, spareField)
	scribble(ev.Digest, 77)
}

func spoilAnswer(a api.Answer) {
	scribble(a.Fields, spareField)
	scribble(a.History, spareSummary)
}

func spoilSeen(x world.Seen) {
	for _, a := range x.Answers {
		spoilAnswer(a)
	}
	scribble(x.Answers, api.Answer{Id: spareId})
	scribble(x.Sent, 77)
	scribble(x.Bytes, 77)
}

// spoilAll writes over all that a world tells.
func spoilAll(w *world.World) {
	for _, node := range nodes {
		l := w.Log(node)
		for _, ev := range l {
			spoilEvent(ev)
		}
		scribble(l, api.Event{Place: 77})
	}
	for _, number := range w.Bag() {
		_, _, m, _ := w.Message(number)
		scribble(m.Request.Fields, spareField)
		spoilAnswer(m.Answer)
		spoilEvent(m.Event)
	}
	scribble(w.Bag(), 77)
	for client := range api.MaxClients {
		scribble(w.Waiting(client), spareId)
		l := w.Got(client)
		for _, a := range l {
			spoilAnswer(a)
		}
		scribble(l, api.Answer{Id: spareId})
	}
	scribble(w.Public(), 77)
	for _, s := range []world.Step{include(0, len(w.Log(2))), extend(1, len(w.Log(2)))} {
		spoilSeen(w.Step(s))
	}
}

// tale is steps that come to all there is: fields and histories in messages, events and answers; nodes that are off; heads and proofs.
func tale(clients int) []world.Step {
	var l []world.Step
	for i, r := range story() {
		l = append(l, call(i%clients, r))
		if i == 4 {
			l = append(l, crash(1, 0), tick(0), restart(1, 0), arm(0, 1, 1000))
		}
		if i == 6 {
			l = append(l, restart(0, 1000), sign())
		}
		for number := range 60 {
			l = append(l, tick(0), tick(1), deliver(60*i+number), deliver(60*i+number/2))
		}
		l = append(l, retry(i%clients))
	}
	return append(l, sign(), crash(2, 0), fill(0, 1))
}

// settled tells steps by which all that waits is answered.
func settled(w *world.World, clients int) []world.Seen {
	var l []world.Seen
	for _, node := range nodes {
		l = append(l, w.Step(fill(node, 0)), w.Step(restart(node, 0)))
	}
	for range 40 {
		for _, node := range nodes {
			l = append(l, w.Step(tick(node)))
		}
		for client := range clients {
			l = append(l, w.Step(retry(client)))
		}
		for _, number := range w.Bag() {
			l = append(l, w.Step(deliver(number)))
		}
	}
	return append(l, w.Step(sign()))
}

func tellAll(l []world.Seen) string {
	s := ""
	for _, x := range l {
		s += tellSeen(x) + "\n"
	}
	return s
}

// TestTheTaleIsRich: else what is asked with it would say little.
func TestTheTaleIsRich(t *testing.T) {
	w := made(t, sized(2, 2), 2)
	x := tellAll(w.Play(tale(2)))
	settled(w, 2)
	history, fields := 0, 0
	for client := range 2 {
		waits(t, "all is settled", w, client)
		for _, a := range w.Got(client) {
			history += len(a.History)
			fields += len(a.Fields)
		}
	}
	if history == 0 || fields == 0 || len(w.Log(2)) != len(story()) || len(x) < 1000 {
		t.Errorf("%d versions, %d fields, %d events", history, fields, len(w.Log(2)))
	}
}

// TestWhatIsHandedToNew is not changed, and not kept: a world whose Config was written over goes on as before, behind restarts too.
func TestWhatIsHandedToNew(t *testing.T) {
	for _, staff := range [][]api.Staff{people(), nil} {
		c := sized(2, 2)
		want := c
		want.Staff = staff
		c.Staff, c.Seed = roomy(staff, sparePerson), roomy([]byte{1}, 9)
		w, other := made(t, c, 2), made(t, want, 2)
		if !isAsHanded(c.Staff, staff, sparePerson) || !isAsHanded(c.Seed, []byte{1}, 9) {
			t.Error("R4: New changes a list of the Config")
		}
		scribble(c.Staff, api.Staff{Actor: 7})
		scribble(c.Seed, 0)
		got, right := tellAll(w.Play(tale(2))), tellAll(other.Play(tale(2)))
		got += tellAll(settled(w, 2))
		right += tellAll(settled(other, 2))
		if got != right || seen(w) != seen(other) {
			t.Error("R4: a Config that is written over changes a world")
		}
		if !slices.Equal(c.Seed, []byte{0}) {
			t.Error("R4: a world writes into the Config")
		}
	}
	c := sized(2, 2)
	c.Width, c.Seed, c.Staff = 0, roomy(c.Seed, 9), roomy(c.Staff, sparePerson)
	isRefused(t, "a width that may not be", c, 1)
	if !isAsHanded(c.Staff, people(), sparePerson) || !isAsHanded(c.Seed, []byte{1}, 9) {
		t.Error("R4: a New that is refused changes a list of the Config")
	}
}

// TestWhatIsHandedToStep is not changed, and not kept; neither by a Call, nor by a step that has no use for a request, nor by one that is refused.
func TestWhatIsHandedToStep(t *testing.T) {
	fields := []api.Field{text("a", "x"), text("b", "y")}
	for op := 0; op <= 14; op++ {
		for _, l := range [][]api.Field{fields, nil, {text("b", ""), text("a", "")}} {
			w, other := standing(t, sized(1, 0), 1, creates()), standing(t, sized(1, 0), 1, creates())
			s := world.Step{Op: op, Index: 1, N: 1, Request: creates(l...)}
			want := other.Step(s)
			s.Request.Fields = roomy(l, spareField)
			x := w.Step(s)
			if !isAsHanded(s.Request.Fields, l, spareField) {
				t.Errorf("R4: %s changes its list", tellStep(s))
			}
			scribble(s.Request.Fields, spareField)
			if tellSeen(x) != tellSeen(want) || seen(w) != seen(other) {
				t.Errorf("R4: %s has kept its list:\n%s, want\n%s", tellStep(s), seen(w), seen(other))
			}
			if tellAll(settled(w, 1)) != tellAll(settled(other, 1)) || seen(w) != seen(other) {
				t.Errorf("R4: %s has kept its list", tellStep(s))
			}
		}
	}
}

// TestWhatIsHandedToPlay: the list of steps, and the lists in it.
func TestWhatIsHandedToPlay(t *testing.T) {
	w, other := made(t, sized(2, 2), 2), made(t, sized(2, 2), 2)
	l := roomy(tale(2), retry(77))
	was := tellSteps(l[:cap(l)])
	var fields [][]api.Field
	for i := range l {
		fields = append(fields, l[i].Request.Fields)
		l[i].Request.Fields = roomy(fields[i], spareField)
	}
	x := w.Play(l)
	for i := range l {
		if !isAsHanded(l[i].Request.Fields, fields[i], spareField) {
			t.Fatalf("R4: Play changes a list of the step %d", i)
		}
		scribble(l[i].Request.Fields, spareField)
	}
	if now := tellSteps(l[:cap(l)]); now != was {
		t.Errorf("R4: Play changes its list: %s, was %s", now, was)
	}
	scribble(l, retry(77))
	if tellAll(x) != tellAll(other.Play(tale(2))) || seen(w) != seen(other) || tellAll(settled(w, 2)) != tellAll(settled(other, 2)) {
		t.Error("R4: Play has kept its list")
	}
}

// TestWhatIsToldIsNew writes over all that is told, behind each step: the world goes on as one of which nothing was asked.
func TestWhatIsToldIsNew(t *testing.T) {
	w, other := made(t, sized(2, 2), 2), made(t, sized(2, 2), 2)
	for i, s := range tale(2) {
		x, want := w.Step(s), other.Step(s)
		if tellSeen(x) != tellSeen(want) {
			t.Fatalf("R4: the step %d, %s: %s, want %s", i, tellStep(s), tellSeen(x), tellSeen(want))
		}
		spoilSeen(x)
		if i%10 == 0 || s.Op == world.Crash || s.Op == world.Restart {
			spoilAll(w)
		}
	}
	spoilAll(w)
	if seen(w) != seen(other) {
		t.Errorf("R4: what was told is what is kept:\n%s, want\n%s", seen(w), seen(other))
	}
	if tellAll(settled(w, 2)) != tellAll(settled(other, 2)) || seen(w) != seen(other) {
		t.Error("R4: what was told is what is kept")
	}
}

// apart asks that no two of some lists, told by how to spoil one and how to tell one, share memory.
func apart(t *testing.T, what string, many int, spoil func(i int), tell func(i int) string) {
	t.Helper()
	for i := range many {
		var was []string
		for k := range many {
			was = append(was, tell(k))
		}
		spoil(i)
		for k := range many {
			if k != i && tell(k) != was[k] {
				t.Errorf("R4: %s: the lists %d and %d share memory", what, i, k)
			}
		}
	}
}

// TestNoTwoListsOfOneAnswerShare: logs of nodes that are up and off, answers, what Play tells.
func TestNoTwoListsOfOneAnswerShare(t *testing.T) {
	w := standing(t, sized(8, 2), 1, append(story(), creates(), creates(text("a", "")), reads(3))...)
	for _, isOff := range []bool{false, true} {
		if isOff {
			w.Step(crash(1, 0))
		}
		l := w.Log(1)
		apart(t, "Log", 2*len(l), func(i int) {
			if i%2 == 0 {
				scribble(l[i/2].Request.Fields, spareField)
			} else {
				scribble(l[i/2].Digest, 77)
			}
		}, func(i int) string {
			if i%2 == 0 {
				f := l[i/2].Request.Fields
				return tellFields(f[:cap(f)])
			}
			return fmt.Sprint(l[i/2].Digest[:cap(l[i/2].Digest)])
		})
	}
	g := w.Got(0)
	apart(t, "Got", len(g), func(i int) { spoilAnswer(g[i]) }, func(i int) string {
		return tellFields(g[i].Fields[:cap(g[i].Fields)]) + fmt.Sprint(g[i].History[:cap(g[i].History)])
	})
	x := slices.DeleteFunc(w.Play(slices.Concat(tale(1)[:800], []world.Step{restart(1, 0), sign(), sign(), include(0, 8), include(0, 8), extend(3, 8)})), func(x world.Seen) bool {
		return len(x.Sent)+len(x.Bytes) == 0
	})
	apart(t, "Play", len(x), func(i int) {
		scribble(x[i].Sent, 77)
		scribble(x[i].Bytes, 77)
	}, func(i int) string { return fmt.Sprint(x[i].Sent[:cap(x[i].Sent)], x[i].Bytes[:cap(x[i].Bytes)]) })
}

// TestWhatWasToldStays: later steps don't change it.
func TestWhatWasToldStays(t *testing.T) {
	w := made(t, sized(2, 2), 1)
	first := w.Play(tale(1)[:700])
	bag, waiting, got, public := w.Bag(), w.Waiting(0), w.Got(0), w.Public()
	logs := [][]api.Event{w.Log(0), w.Log(1), w.Log(2)}
	var messages []api.Message
	for _, number := range bag {
		_, _, m, _ := w.Message(number)
		messages = append(messages, m)
	}
	tell := func() string {
		s := tellAll(first) + fmt.Sprint(bag, waiting, public) + tellAnswers(got)
		for _, l := range logs {
			s += tellEvents(l)
		}
		for _, m := range messages {
			s += tellMessage(m)
		}
		return s
	}
	was := tell()
	w.Play(tale(1))
	settled(w, 1)
	if tell() != was {
		t.Error("R4: what was told has changed")
	}
}
