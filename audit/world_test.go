package audit_test

import (
	"fmt"
	"math/rand"
	"slices"
	"testing"

	"almoner/api"
	"almoner/audit"
	"almoner/wire"
	"almoner/world"
)

const clients = 3

// made tells a new world of a width.
func made(t testing.TB, width int) *world.World {
	t.Helper()
	w, e := world.New(api.Config{Width: width, Height: 1, Seed: []byte{1}, Staff: people, Segment: 8192, Disk: 65536}, clients)
	if e != api.OK {
		t.Fatalf("world.New: %d", e)
	}
	return w
}

// anyRequest tells one that has a form, most often one that can be done.
func anyRequest(r *rand.Rand) api.Request {
	q := oneOf(r, append(story(), more()...)...)
	if q.Op != api.OpCreate && r.Intn(3) > 0 {
		q.Record = uint32(1 + r.Intn(3))
	}
	if r.Intn(4) == 0 {
		q.Actor = uint32(1 + r.Intn(7))
	}
	return q
}

// anyStep tells one of all, most often one by which something goes on.
func anyStep(r *rand.Rand, w *world.World) world.Step {
	s := world.Step{Node: r.Intn(3), Client: r.Intn(clients), Index: r.Intn(5), N: r.Intn(400)}
	bag := w.Bag()
	switch r.Intn(20) {
	case 0, 1:
		s.Op, s.Request = world.Call, anyRequest(r)
	case 2:
		s.Op = world.Retry
	case 3, 4, 5:
		s.Op = world.Tick
	case 6:
		s.Op = oneOf(r, world.Arm, world.Crash, world.Fill)
	case 7, 8:
		s.Op = world.Restart
	case 9:
		s.Op = world.Fill
		s.N = 0
	case 10:
		s.Op = oneOf(r, world.Double, world.Drop)
	default:
		s.Op = world.Deliver
	}
	if s.Op == world.Deliver || s.Op == world.Double || s.Op == world.Drop {
		s.Index = oneOf(r, append(bag, 0)...)
	}
	return s
}

// tells asks of a world's logs for what P20.6, T6 and T7 say.
func tells(t testing.TB, w *world.World, width int) (events int) {
	t.Helper()
	for node := range 3 {
		log := w.Log(node)
		replay(t, fmt.Sprint("the log of the node ", node), width, people, log, -1)
		sumsUp(t, log)
	}
	log := w.Log(2)
	answers, _ := audit.Replay(width, people, log)
	places := map[api.Id]int{}
	for place, e := range log {
		places[e.Request.Id] = place
	}
	for client := range clients {
		for _, a := range w.Got(client) {
			place, found := places[a.Id]
			if !found || !sameAnswer(answers[place], a) {
				t.Fatalf("T7: a client was answered %+v, the log tells %+v, there %v", a, answers[place], found)
			}
			if a.Code != log[place].Code {
				t.Fatalf("T7: the refusal %d is in the log as %d", a.Code, log[place].Code)
			}
		}
	}
	for place, a := range answers {
		r := log[place].Request
		if len(a.Fields) > 0 && (r.Op != api.OpRead || log[place].Code != api.Done || !slices.Contains(audit.Trail(log, a.Record), uint32(place))) {
			t.Fatalf("T7: fields are told at the place %d, by %+v", place, r)
		}
	}
	return len(log)
}

// TestLogsOfWorlds: whatever the script, a log that a world tells has bad -1 at each step, in its width; and what clients were answered is what Replay tells.
func TestLogsOfWorlds(t *testing.T) {
	r := rand.New(rand.NewSource(2010))
	events := 0
	for i := range 60 {
		width := 1 + i%5
		w := made(t, width)
		for step := range 400 {
			w.Step(anyStep(r, w))
			if step%20 == 19 {
				tells(t, w, width)
				calm(w)
			}
		}
		events += tells(t, w, width)
	}
	if events < 400 {
		t.Errorf("the tails have %d events in all", events)
	}
}

// calm is a round in which nothing is lost: all are up, and all that is under way comes.
func calm(w *world.World) {
	for node := range 3 {
		w.Step(world.Step{Op: world.Fill, Node: node})
		w.Step(world.Step{Op: world.Restart, Node: node})
		w.Step(world.Step{Op: world.Tick, Node: node})
	}
	for client := range clients {
		w.Step(world.Step{Op: world.Retry, Client: client})
	}
	for _, number := range w.Bag() {
		w.Step(world.Step{Op: world.Deliver, Index: number})
	}
}

// played tells a world in which requests were called, and all has come.
func played(t testing.TB, width int, l []api.Request) *world.World {
	t.Helper()
	w := made(t, width)
	for _, r := range l {
		if x := w.Step(world.Step{Op: world.Call, Client: 0, Request: r}); x.E != api.OK {
			t.Fatalf("Call of %+v: %d", r, x.E)
		}
		for len(w.Waiting(0)) > 0 { // it ends: the rounds are fair
			calm(w)
		}
	}
	return w
}

// TestAWholeStory: the example through a chain of nodes tells what the example tells.
func TestAWholeStory(t *testing.T) {
	for _, l := range [][]api.Request{story(), more()} {
		w := played(t, 4, l)
		log := logOf(t, 4, l)
		for node := range 3 {
			got := w.Log(node)
			if len(got) != len(log) {
				t.Fatalf("the node %d has %d events of %d", node, len(got), len(log))
			}
			access(t, "a node's log", got, audit.Access(log)...)
			report(t, "a node's log", got, audit.Report(log))
			for number := range uint32(4) {
				trail(t, "a node's log", got, number, audit.Trail(log, number)...)
				points, e := audit.Series(log, number, "temp", 12)
				if e != api.OK {
					t.Fatal(e)
				}
				series(t, "a node's log", got, number, "temp", 12, points...)
			}
		}
	}
}

// TestOfTheEventsAlone: T6: what is told hangs on the events alone: told as bytes and read again, or by another node, behind a crash, they tell the same.
func TestOfTheEventsAlone(t *testing.T) {
	w := played(t, 2, more())
	q := question{number: 2, field: "temp", unit: 13, width: 2, staff: people}
	want := ask(w.Log(0), q)
	if want.bad != -1 || len(want.points) != 2 || len(want.lines) != 15 {
		t.Fatalf("too little is told: %+v", want)
	}
	w.Step(world.Step{Op: world.Crash, Node: 1})
	w.Step(world.Step{Op: world.Crash, Node: 2})
	w.Step(world.Step{Op: world.Restart, Node: 2})
	for node := range 3 {
		var again []api.Event
		for _, e := range w.Log(node) {
			b, err := wire.PutEvent(e)
			if err != nil {
				t.Fatal(err)
			}
			e, err = wire.GetEvent(b)
			if err != nil {
				t.Fatal(err)
			}
			again = append(again, e)
		}
		if !sameTold(ask(w.Log(node), q), want) || !sameTold(ask(again, q), want) {
			t.Errorf("T6: the node %d tells another thing of the same events", node)
		}
	}
}
