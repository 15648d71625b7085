package shell_test

import (
	"fmt"
	"slices"
	"strings"
	"testing"

	"almoner/api"
	"almoner/merkle"
	"almoner/record"
	"almoner/wire"
)

// T1 to T7, as far as they can be seen from a text: what its lines say is held against the model alone, asked for the requests that the text calls.

// scene is what a text has said behind each of its lines.
type scene struct {
	t       *testing.T
	text    string
	width   int
	clients int
	called  map[api.Id]api.Request
	calls   map[int]int    // how many each client has called
	logs    [3][]string    // the nodes' logs
	got     [][]string     // the clients' answers
	heads   map[int]string // by their sizes
	last    int            // the size of the last head
	signed  bool           // the last step has signed it
	places  map[api.Id]int
	model   []api.Answer
	events  [][]byte
}

func (x *scene) fatal(form string, all ...any) {
	x.t.Helper()
	x.t.Fatalf(form+"\nbehind %s", append(all, strokes(x.text))...)
}

// questions are asked behind each step.
func questions(clients int) []string {
	l := []string{"log 0", "log 1", "log 2"}
	for client := range clients {
		l = append(l, fmt.Sprintf("got %d", client))
	}
	return l
}

// watch plays steps behind a world's beginning, and asks for the promises behind each so many of them. It tells what was seen.
func watch(t *testing.T, width, height, clients, every int, steps []string) *scene {
	t.Helper()
	x := &scene{t: t, width: width, clients: clients, called: map[api.Id]api.Request{}, calls: map[int]int{}, got: make([][]string, clients), heads: map[int]string{}}
	ahead := opening(width, height, clients)
	asked := questions(clients)
	var l []string
	for i, step := range steps {
		l = append(l, step)
		if i%every == every-1 {
			l = append(l, asked...)
		}
	}
	x.text = strings.Join(append(slices.Clone(ahead), steps...), "\n")
	parts := saidBy(t, ahead, l...)
	for i, step := range steps {
		x.takeCall(step, parts[0])
		x.takeHead(step, parts[0])
		parts = parts[1:]
		if i%every == every-1 {
			x.isKept(step, parts[:3])
			x.isOnce(step, parts[3:len(asked)])
			x.isServed(every == 1 && x.signed)
			parts = parts[len(asked):]
		}
	}
	return x
}

// opening tells the lines of a world, and of its verifier.
func opening(width, height, clients int) []string {
	return append(strings.Split(strings.TrimSuffix(hired, "|"), "|"), fmt.Sprintf("world %d %d 01 8192 65536 %d", width, height, clients), "verifier")
}

// takeCall keeps the request of a step, if it is a Call that was taken.
func (x *scene) takeCall(step string, said []string) {
	if len(said) == 0 || !strings.HasPrefix(said[0], "ok ") {
		return
	}
	r, isCall := requestOf(step)
	if !isCall {
		return
	}
	client := n(strings.Fields(step)[1])
	x.calls[client]++
	r.Id = api.Id{Client: uint32(client), Number: uint32(x.calls[client])}
	x.called[r.Id] = r
}

// requestOf tells the request that a line calls for.
func requestOf(line string) (r api.Request, isCall bool) {
	w := strings.Fields(line)
	ops := []string{"", "create", "amend", "read", "redact", "history", "seal", "break"}
	op := slices.Index(ops, w[0])
	if op < 1 {
		return r, false
	}
	r.Op, r.Actor, r.Record = uint8(op), u(w[2]), u(w[3])
	switch op {
	case api.OpCreate:
		r.Record, r.Ward, r.Owner, r.Fields = 0, u(w[3]), u(w[4]), fieldsOf(strings.Join(w[5:], " "))
	case api.OpAmend:
		r.Version, r.Fields = u(w[4]), fieldsOf(strings.Join(w[5:], " "))
	case api.OpRead, api.OpRedact, api.OpSeal:
		r.Version = u(w[4])
	case api.OpBreak:
		r.Reason = strings.Join(w[4:], "")
	}
	return r, true
}

// isKept asks for T2: the logs go on as they were, each is a beginning of the one ahead.
func (x *scene) isKept(step string, logs [][]string) {
	x.t.Helper()
	for node, now := range logs {
		if had := x.logs[node]; len(now) < len(had) || !slices.Equal(now[:len(had)], had) {
			x.fatal("T2: %q: the node %d had %q, and has %q", step, node, had, now)
		}
		if node > 0 && (len(now) > len(logs[node-1]) || !slices.Equal(now, logs[node-1][:len(now)])) {
			x.fatal("T2: %q: the node %d has %q, the one ahead %q", step, node, now, logs[node-1])
		}
	}
	grown := len(logs[2]) > len(x.logs[2])
	x.logs = [3][]string(logs)
	if grown || x.places == nil {
		x.takeLog(step)
	}
}

// takeLog asks of the tail's log that each event is of an id that was called, and of no other's, and asks the model for the answers.
func (x *scene) takeLog(step string) {
	x.t.Helper()
	var requests []api.Request
	x.places = map[api.Id]int{}
	for place, line := range x.logs[2] {
		l := numbersOf(x.t, line)
		of := api.Id{Client: uint32(l[1]), Number: uint32(l[2])}
		r, was := x.called[of]
		if _, twice := x.places[of]; twice || !was || l[0] != place || l[3] != int(r.Actor) || l[4] != int(r.Op) || l[5] != int(r.Record) {
			x.fatal("T1: %q: the event %q at %d was called as %+v, %v, twice %v", step, line, place, r, was, twice)
		}
		x.places[of] = place
		requests = append(requests, r)
	}
	x.model, x.events = record.Answers(people, requests), nil
	for place, a := range x.model {
		if l := numbersOf(x.t, x.logs[2][place]); l[6] != int(a.Code) {
			x.fatal("T1: %q: the event %q, the model's code is %d", step, x.logs[2][place], a.Code)
		}
		ev, e := record.Event(x.width, uint32(place), requests[place], a)
		entry, err := wire.PutEvent(ev)
		if e != api.OK || err != nil {
			x.fatal("T1: %q: %d, %v", step, int(e), err)
		}
		x.events = append(x.events, entry)
	}
}

// isOnce asks for T1 and T7: each answer is the model's at the place of its event, and none changes; what it tells may be read.
func (x *scene) isOnce(step string, got [][]string) {
	x.t.Helper()
	for client, now := range got {
		told := map[string]bool{}
		for _, line := range now {
			var of api.Id
			fmt.Sscanf(line, "%d %d", &of.Client, &of.Number)
			place, in := x.places[of]
			if !in || line != answerWord(x.model[place]) || int(of.Client) != client {
				x.fatal("T1: %q: the client %d has got %q, at %d, %v, of %q", step, client, line, place, in, x.logs[2])
			}
			told[line] = true
			if strings.ContainsAny(line, "=:") && !x.mayBeRead(place) {
				x.fatal("T7: %q: %q is told", step, line)
			}
		}
		for _, line := range x.got[client] {
			if !told[line] {
				x.fatal("T1: %q: the client %d had got %q, and has %q", step, client, line, now)
			}
		}
		x.got[client] = now
	}
}

// mayBeRead tells whether the event at a place is a read, and its actor may read then: chapter 10's words, over the requests that were done ahead of it.
func (x *scene) mayBeRead(place int) bool {
	reader := x.requestAt(place)
	if reader.Op != api.OpRead || x.model[place].Code != api.Done {
		return false
	}
	var made api.Request
	creates, isSealed, granted := uint32(0), false, map[uint32]bool{}
	for at := range place {
		r, isDone := x.requestAt(at), x.model[at].Code == api.Done
		switch {
		case !isDone:
		case r.Op == api.OpCreate:
			if creates++; creates == reader.Record {
				made = r
			}
		case r.Record != reader.Record:
		case r.Op == api.OpSeal:
			isSealed, granted = r.Version == 1, map[uint32]bool{}
		case r.Op == api.OpBreak:
			granted[r.Actor] = true
		}
	}
	for _, p := range people {
		if p.Actor == reader.Actor {
			isNear := p.Ward == made.Ward
			return p.Actor == made.Owner || isNear && p.Role == api.RoleDoctor || isNear && !isSealed && p.Role <= api.RoleNurse || granted[p.Actor] && (p.Role == api.RoleDoctor || p.Role == api.RoleNurse)
		}
	}
	return false
}

func (x *scene) requestAt(place int) api.Request {
	for of, at := range x.places {
		if at == place {
			return x.called[of]
		}
	}
	return api.Request{}
}

// takeHead keeps the head that a step has signed, and asks that none sinks, and that two of one size are the same.
func (x *scene) takeHead(step string, said []string) {
	x.t.Helper()
	x.signed = false
	switch {
	case step == "replay" && said[0] != "-1":
		x.fatal("P20.6: replay says %q", said)
	case step != "sign" || strings.HasPrefix(said[0], "error "):
		return
	}
	size := n(strings.Fields(said[0])[0])
	if had, was := x.heads[size]; was && had != said[0] || size < x.last {
		x.fatal("T4: sign says %q behind %q", said, x.heads)
	}
	x.heads[size], x.last, x.signed = said[0], size, true
}

// isServed asks for T4: each head is of the first events of the tail's log; of all that there are, if it was signed right now.
func (x *scene) isServed(now bool) {
	x.t.Helper()
	for size, head := range x.heads {
		if size > len(x.events) || head != fmt.Sprintf("%d %x", size, merkle.Root(x.width, x.events[:size])) {
			x.fatal("T4: the head %q of a log of %d events", head, len(x.events))
		}
	}
	if now && x.last != len(x.events) {
		x.fatal("T4: the last head is of size %d, there are %d events", x.last, len(x.events))
	}
}

// drawnSteps draws some, of a world of that width, height and clients, with crashes, torn writes, losses and doubles.
func drawnSteps(seed int64, width, height, clients, many int) []string {
	s := newScript(seed)
	for _, line := range strings.Split(hired, "|") {
		s.add("%s", line)
	}
	s.add("world %d %d 01 8192 65536 %d", width, height, clients)
	s.calm = s.Intn(3) == 0
	first := len(s.lines)
	s.add("create 0 2 7 6 t:36.6_C b=x")
	s.add("run %d", s.Intn(9))
	for len(s.lines)-first < many {
		s.step()
		switch s.Intn(20) {
		case 0:
			s.add("sign")
		case 1:
			s.add("replay")
		}
	}
	return s.lines[first:][:many]
}

// TestPromises: T1, T2, T4 and T7 behind each step of drawn texts, and behind some of long ones.
func TestPromises(t *testing.T) {
	t.Parallel()
	acknowledged, told := 0, 0
	for seed := range int64(200) {
		width, height, clients, every := []int{1, 4, 32}[seed%3], int(seed%4), 1+int(seed%2), []int{1, 1, 12}[seed%3]
		many := (480 / (every + 3 + clients)) * every
		x := watch(t, width, height, clients, every, drawnSteps(seed, width, height, clients, many))
		for _, l := range x.got {
			acknowledged += len(l)
			told += strings.Count(strings.Join(l, " "), ":") + strings.Count(strings.Join(l, " "), "=")
		}
	}
	if acknowledged < 1000 || told < 100 {
		t.Errorf("only %d answers came, which told %d fields", acknowledged, told)
	}
}

// TestServed: T3 and T4: what a tail signs and proves, a verifier that is handed it takes: of every size, each place, whatever came between.
func TestServed(t *testing.T) {
	t.Parallel()
	taken := 0
	for seed := range int64(40) {
		width := []int{1, 4, 32}[seed%3]
		s := newScript(2000 + seed)
		for _, line := range opening(width, 4, 1) {
			s.add("%s", line)
		}
		ahead := len(s.lines)
		for len(s.lines) < 450 {
			s.step()
			if s.Intn(25) == 0 {
				s.served()
			}
		}
		for i, said := range saidBy(t, s.lines[:ahead], s.lines[ahead:]...) {
			line := s.lines[ahead+i]
			if !strings.HasPrefix(line, "check") && !strings.HasPrefix(line, "include") {
				continue
			}
			if said[0] != "ok" {
				t.Fatalf("T3, T4: %q says %q behind %q", line, said, s.lines[:ahead+i])
			}
			taken++
		}
	}
	if taken < 1000 {
		t.Errorf("T4: only %d checks", taken)
	}
}

// served asks a tail that is up for a head, and hands it to the verifier, with proofs for all that it has.
func (s *script) served() {
	s.add("restart 2 0")
	s.add("fill 2 0")
	if s.add("sign") != api.OK {
		return
	}
	size := n(strings.Fields(s.told[len(s.told)-1])[0])
	s.add("check %d", size)
	for place := range min(size, 12) {
		s.add("include %d %d", place, size)
	}
	if s.Intn(4) == 0 { // another stranger, who trusts this head first
		s.add("verifier")
		s.add("check 0")
	}
}

// TestFairRuns: T5: with all nodes up and no disk full or armed, each request that waits is answered in time.
func TestFairRuns(t *testing.T) {
	t.Parallel()
	waited := 0
	for seed := range int64(120) {
		steps := drawnSteps(3000+seed, 4, 0, 2, 150)
		var ready []string
		for node := range 3 {
			ready = append(ready, fmt.Sprintf("crash %d 0", node), fmt.Sprintf("restart %d 0", node), fmt.Sprintf("fill %d 0", node))
		}
		ahead := opening(4, 0, 2)
		l := append(append(slices.Clone(steps), ready...), "got 0", "got 1", "log 2")
		begin := len(l)
		const rounds = 130
		for range rounds {
			l = append(l, "run 1")
		}
		l = append(l, "log 2", "got 0", "got 1")
		parts := saidBy(t, ahead, l...)
		isIn, d := map[string]bool{}, len(parts[begin-1])
		for _, line := range slices.Concat(parts[begin-3], parts[begin-2]) {
			isIn[line] = true
		}
		places := map[string]int{}
		for p, line := range parts[begin+rounds] {
			w := strings.Fields(line)
			places[w[1]+" "+w[2]] = p
		}
		for round := range rounds {
			for _, line := range parts[begin+round] {
				w := strings.Fields(line)
				p, in := places[w[0]+" "+w[1]]
				if bound := 2*(p+1-min(d, p+1)) + 10; isIn[line] || !in || round+1 > bound {
					t.Fatalf("T5: %q came in round %d, at most %d, place %d, %v, twice %v\nbehind %q", line, round+1, bound, p, in, isIn[line], l[:begin])
				}
				isIn[line] = true
				waited++
			}
		}
		calls := 0
		for i, step := range steps {
			if _, isCall := requestOf(step); isCall && strings.HasPrefix(parts[i][0], "ok ") {
				calls++
			}
		}
		if all := len(parts[begin+rounds+1]) + len(parts[begin+rounds+2]); all != calls || len(isIn) != calls || len(places) != calls {
			t.Fatalf("T5: of %d calls %d are answered\nbehind %q", calls, all, l[:begin])
		}
	}
	if waited < 200 {
		t.Errorf("T5: only %d requests waited", waited)
	}
}

// TestMeasuredRight: T6: the exact real number, rounded once, whatever happens to the nodes behind it.
func TestMeasuredRight(t *testing.T) {
	for _, x := range []struct{ word, unit, want string }{
		{"98.6_F", "C", "37_C"}, {"37_C", "F", "98.6_F"}, {"1_lb", "kg", "0.45359236_kg"}, {"90_mg/dL", "mmol/L", "4.9956703_mmol/L"}, {"1_1", "%", "100_%"}, {"1_/s", "/min", "60_/min"}, {"120_mmHg", "kPa", "15.998684_kPa"}, {"0.1_in", "cm", "0.254_cm"},
	} {
		for _, harm := range []string{"", "crash 2 0|", "crash 2 0|restart 2 0|", "arm 2 1 3|read 0 6 1 0|run 9|", "fill 2 1|crash 0 0|"} {
			text := beginning + "create 0 2 7 6 q:" + x.word + "|run 8|" + harm
			said := run(t, lines(text))
			if got := strings.TrimPrefix(run(t, lines(text+"series 1 q "+x.unit)), said); got != "0 "+x.want+"\n" {
				t.Errorf("T6: %s in %s behind %q: %q", x.word, x.unit, harm, got)
			}
		}
	}
}
