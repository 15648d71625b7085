package world_test

import (
	"bytes"
	"math/rand"
	"slices"
	"testing"

	"almoner/api"
	"almoner/merkle"
	"almoner/policy"
	"almoner/record"
	"almoner/verifier"
	"almoner/wire"
	"almoner/world"
)

// model tells what the model answers to the requests of events.
func model(staff []api.Staff, l []api.Event) []api.Answer {
	var requests []api.Request
	for _, ev := range l {
		requests = append(requests, ev.Request)
	}
	return record.Answers(staff, requests)
}

// watch is a world, and what was seen of it, held against the promises behind each step.
type watch struct {
	t       *testing.T
	c       api.Config
	clients int
	w       *world.World
	said    []world.Step
	called  map[api.Id]string // the requests, as texts
	logs    [3][]string       // the events, as texts
	got     map[api.Id]string // the answers, as texts
	last    int               // the number of the last message
	heads   []api.Signed
	v       *verifier.Verifier
}

func newWatch(t *testing.T, c api.Config, clients int) *watch {
	t.Helper()
	x := &watch{t: t, c: c, clients: clients, w: made(t, c, clients), called: map[api.Id]string{}, got: map[api.Id]string{}}
	x.v, _ = verifier.New(c.Width, c.Height, x.w.Public())
	return x
}

// fatal ends the test, with the script that has led there.
func (x *watch) fatal(form string, all ...any) {
	x.t.Helper()
	x.t.Fatalf(form+"\nbehind %s", append(all, tellSteps(x.said))...)
}

// step plays one, and asks for the promises.
func (x *watch) step(s world.Step) world.Seen {
	x.t.Helper()
	x.said = append(x.said, s)
	before := [3]bool{x.w.Up(0), x.w.Up(1), x.w.Up(2)}
	seen := x.w.Step(s)
	if s.Op == world.Call && seen.E == api.OK {
		of := id(s.Client, uint32(len(x.w.Waiting(s.Client))+len(x.w.Got(s.Client))))
		x.called[of] = tellRequest(with(s.Request, of))
	}
	for _, number := range seen.Sent {
		if number != x.last+1 {
			x.fatal("P18.2: the message %d came behind %d", number, x.last)
		}
		x.last++
	}
	if seen.E != api.OK && len(seen.Sent)+len(seen.Answers)+len(seen.Bytes) != 0 {
		x.fatal("R2: %s", tellSeen(seen))
	}
	x.isKept(s, before)
	x.isOnce(seen)
	if seen.E == api.OK {
		x.isServed(s, seen.Bytes)
	}
	return seen
}

// isKept asks for T2, of the logs as they are told.
func (x *watch) isKept(s world.Step, before [3]bool) {
	x.t.Helper()
	for node := range x.logs {
		var now []string
		for _, ev := range x.w.Log(node) {
			now = append(now, tellEvent(ev))
		}
		had := len(x.logs[node])
		if len(now) < had || !slices.Equal(now[:had], x.logs[node]) {
			x.fatal("T2: the node %d had %q, and has %q", node, x.logs[node], now)
		}
		if len(now) > had+1 || len(now) > had && !x.w.Up(node) {
			x.fatal("T2: the node %d, up %v, had %d events, and has %d", node, x.w.Up(node), had, len(now))
		}
		if x.w.Up(node) && !before[node] && (s.Op != world.Restart || s.Node != node) {
			x.fatal("P18.3: the node %d has come up", node)
		}
		x.logs[node] = now
	}
	for node := 1; node < 3; node++ {
		ahead, here := x.logs[node-1], x.logs[node]
		if len(here) > len(ahead) || !slices.Equal(ahead[:len(here)], here) {
			x.fatal("T2: the node %d has %q, the one ahead %q", node, here, ahead)
		}
	}
}

// isOnce asks for T1 and T7.
func (x *watch) isOnce(seen world.Seen) {
	x.t.Helper()
	log := x.w.Log(2)
	told := model(x.c.Staff, log)
	places := map[api.Id]int{}
	for place, ev := range log {
		of := ev.Request.Id
		if _, twice := places[of]; twice || x.called[of] != tellRequest(ev.Request) {
			x.fatal("T1: the event %d: %s was called as %q, twice %v", place, tellEvent(ev), x.called[of], twice)
		}
		places[of] = place
		if made, e := record.Event(x.c.Width, uint32(place), ev.Request, told[place]); e != api.OK || tellEvent(made) != tellEvent(ev) {
			x.fatal("T1: the event %s, want %s", tellEvent(ev), tellEvent(made))
		}
	}
	for _, a := range seen.Answers {
		if _, had := x.got[a.Id]; had {
			x.fatal("P18.3: %v is answered twice", a.Id)
		}
		x.got[a.Id] = tellAnswer(a)
	}
	many := 0
	for client := range x.clients {
		for _, a := range x.w.Got(client) {
			place, in := places[a.Id]
			if !in || tellAnswer(a) != tellAnswer(told[place]) || a.Code != log[place].Code || x.got[a.Id] != tellAnswer(a) {
				x.fatal("T1: the answer %s, got as %q, at %d %v, want %q", tellAnswer(a), x.got[a.Id], place, in, tellAnswers(told))
			}
			many++
		}
		for _, of := range x.w.Waiting(client) {
			if _, had := x.got[of]; had || x.called[of] == "" {
				x.fatal("P18.2: %v waits, answered %v", of, had)
			}
			many++
		}
	}
	if many != len(x.called) {
		x.fatal("P18.2: %d were called, %d wait or are answered", len(x.called), many)
	}
	x.isSeen(log, told)
}

// isSeen asks for T7, of what the answers to the tail's events tell: fields only to whom policy lets read them, at that place.
func (x *watch) isSeen(log []api.Event, told []api.Answer) {
	x.t.Helper()
	var sheets []policy.Sheet
	for i, ev := range log {
		r, a := ev.Request, told[i]
		if len(a.Fields) > 0 && policy.Read(x.c.Staff, sheets[a.Record-1], r.Actor) != api.Done {
			x.fatal("T7: %d reads %s", r.Actor, tellAnswer(a))
		}
		if a.Code != api.Done {
			continue
		}
		switch r.Op {
		case api.OpCreate:
			sheets = append(sheets, policy.Sheet{Ward: r.Ward, Owner: r.Owner})
		case api.OpSeal:
			sheets[r.Record-1].Sealed, sheets[r.Record-1].Granted = r.Version == 1, nil
		case api.OpBreak:
			sheets[r.Record-1].Granted = append(sheets[r.Record-1].Granted, r.Actor)
		}
	}
}

// isServed asks for T4, of the bytes that a step tells.
func (x *watch) isServed(s world.Step, b []byte) {
	x.t.Helper()
	entries := entriesOf(x.t, x.w.Log(2))
	switch s.Op {
	case world.Sign:
		x.isHead(b, entries)
	case world.Include:
		proof, err := wire.GetProof(b)
		l := entries[:s.N]
		want, e := merkle.Path(x.c.Width, l, s.Index)
		if err != nil || e != api.OK || !sameHashes(proof.Hashes, want) || !merkle.CheckPath(x.c.Width, merkle.Leaf(x.c.Width, l[s.Index]), s.Index, s.N, proof.Hashes, merkle.Root(x.c.Width, l)) {
			x.fatal("T4: the path of %d among %d: %x, want %x", s.Index, s.N, proof, want)
		}
	case world.Extend:
		proof, err := wire.GetProof(b)
		l := entries[:s.N]
		want, e := merkle.Proof(x.c.Width, l, s.Index)
		if err != nil || e != api.OK || !sameHashes(proof.Hashes, want) || !merkle.CheckProof(x.c.Width, s.Index, s.N, merkle.Root(x.c.Width, l[:s.Index]), merkle.Root(x.c.Width, l), proof.Hashes) {
			x.fatal("T4: the proof from %d to %d: %x, want %x", s.Index, s.N, proof, want)
		}
	}
}

// isHead asks for what a signed head must be, behind all that were signed ahead.
func (x *watch) isHead(b []byte, entries [][]byte) {
	x.t.Helper()
	now, err := wire.GetSigned(b)
	if err != nil || int(now.Head.Size) != len(entries) || !bytes.Equal(now.Head.Root, merkle.Root(x.c.Width, entries)) {
		x.fatal("T4: the head %v, %v, of %d events", now.Head, err, len(entries))
	}
	trusted := 0
	if t, ok := x.v.Trusted(); ok {
		trusted = int(t.Head.Size)
	}
	proof := x.w.Step(extend(trusted, len(entries)))
	if e := x.v.Head(b, proof.Bytes); e != api.OK || len(x.v.Evidence()) != 0 {
		x.fatal("T4: the verifier takes no head of size %d behind %d: %d", now.Head.Size, trusted, e)
	}
	for _, old := range x.heads {
		was, _ := wire.PutSigned(old)
		same := bytes.Equal(was, b)
		if old.Head.Size > now.Head.Size || (old.Head.Size == now.Head.Size || old.Key == now.Key) && !same {
			x.fatal("T4: two heads: %v by %d, %v by %d", old.Head, old.Key, now.Head, now.Key)
		}
	}
	x.heads = append(x.heads, now)
}

func sameHashes(a, b [][]byte) bool { return slices.EqualFunc(a, b, bytes.Equal) }

// TestPromises plays any scripts, with torn writes, crashes, restarts, full disks, doubled, dropped and late messages, and asks for T1, T2, T4 and T7 behind each step.
func TestPromises(t *testing.T) {
	r := rand.New(rand.NewSource(1805))
	answered, signed, deep := 0, 0, 0
	for i := range 150 {
		c := sized([]int{1, 2, 4, 32}[i%4], []int{1, 3, 0}[i%3])
		if i%7 == 0 {
			c.Disk = 8192
		}
		x := newWatch(t, c, 1+i%5)
		for range 250 {
			s := anyStep(r, x.w, x.clients, i%10)
			if r.Intn(30) == 0 {
				s = oddStep(r)
			}
			x.step(s)
		}
		answered += len(x.got)
		signed += len(x.heads)
		deep = max(deep, len(x.w.Log(2)))
	}
	if answered < 150 || signed < 150 || deep < 5 {
		t.Errorf("%d answers, %d heads, at most %d events: the scripts are too poor", answered, signed, deep)
	}
}

// behind tells a new world that has played steps, and then a crash and a restart of a node that keeps so many bytes.
func behind(t *testing.T, c api.Config, clients int, l []world.Step, node, keep int) []api.Event {
	t.Helper()
	w := made(t, c, clients)
	w.Play(l)
	w.Step(crash(node, keep))
	if x := w.Step(restart(node, keep)); x.E != api.OK {
		t.Fatalf("T2: Restart(%d): %d, behind %s", node, x.E, tellSteps(l))
	}
	return w.Log(node)
}

// TestDurable asks at each step what would be left behind a crash that keeps nothing, and behind one that keeps all: what is told of a node is synced, on one that is off too; and at most one event more was written.
func TestDurable(t *testing.T) {
	r := rand.New(rand.NewSource(1806))
	torn, tail := 0, 0
	for i := range 16 {
		c, clients := sized(1, 0), 1+i%2
		w := made(t, c, clients)
		var l []world.Step
		for range 250 {
			s := anyStep(r, w, clients, 1+i%5)
			l = append(l, s)
			w.Step(s)
			if r.Intn(4) != 0 {
				continue
			}
			var safe [3]string
			for _, node := range nodes {
				now := w.Log(node)
				least, most := behind(t, c, clients, l, node, 0), behind(t, c, clients, l, node, 1<<20)
				safe[node] = tellEvents(least)
				if safe[node] != tellEvents(now) {
					t.Fatalf("T2: the node %d has %d events, of which %d are synced; behind %s", node, len(now), len(least), tellSteps(l))
				}
				if len(most) > len(now)+1 || tellEvents(most[:len(now)]) != safe[node] {
					t.Fatalf("T2: the node %d had %d events, and has %d behind a restart; behind %s", node, len(now), len(most), tellSteps(l))
				}
				torn += len(most) - len(now)
			}
			if safe[0][:len(safe[1])] != safe[1] || safe[1][:len(safe[2])] != safe[2] {
				t.Fatalf("T2: the durable logs are no chain, behind %s", tellSteps(l))
			}
		}
		tail = max(tail, len(w.Log(2)))
	}
	if torn == 0 || tail < 3 {
		t.Errorf("%d events were written and not synced, at most %d came to the tail: the scripts are too poor", torn, tail)
	}
}
