package world_test

import (
	"fmt"
	"math"
	"math/rand"
	"slices"
	"strings"
	"testing"

	"almoner/api"
	"almoner/disk"
	"almoner/world"
)

var (
	nodes = []int{0, 1, 2}
	// noNodes, noClients and noNumbers are such as there are never any.
	noNodes   = []int{-1, 3, 4, 10, 11, math.MinInt, math.MaxInt, math.MinInt32, math.MaxInt32, 1 << 32, 1<<32 + 1}
	noClients = []int{-1, 16, 17, 26, math.MinInt, math.MaxInt, math.MinInt32, math.MaxInt32, 1 << 32, -10, math.MaxInt - 9}
	noNumbers = []int{0, -1, 1 << 40, math.MinInt, math.MaxInt, 1 << 32, 1<<32 + 1}
)

// people are the staff of chapter 10's examples.
func people() []api.Staff {
	return []api.Staff{
		{Actor: 1, Role: api.RoleClerk, Ward: 7},
		{Actor: 2, Role: api.RoleNurse, Ward: 7},
		{Actor: 3, Role: api.RoleDoctor, Ward: 7},
		{Actor: 4, Role: api.RoleDoctor, Ward: 8},
		{Actor: 5, Role: api.RoleAuditor},
		{Actor: 6, Role: api.RolePatient},
	}
}

// sized is a Config of a width and a height.
func sized(width, height int) api.Config {
	return api.Config{Width: width, Height: height, Seed: []byte{1}, Staff: people(), Segment: 8192, Disk: 65536}
}

// examples is the chapter's c.
func examples() api.Config { return sized(4, 1) }

// made tells a new world, which must be there.
func made(t testing.TB, c api.Config, clients int) *world.World {
	t.Helper()
	w, e := world.New(c, clients)
	if w == nil || e != api.OK {
		t.Fatalf("P18.1: New(%+v, %d): %v, %d", c, clients, w, e)
	}
	return w
}

// The steps.

func call(client int, r api.Request) world.Step {
	return world.Step{Op: world.Call, Client: client, Request: r}
}

func retry(client int) world.Step   { return world.Step{Op: world.Retry, Client: client} }
func deliver(number int) world.Step { return world.Step{Op: world.Deliver, Index: number} }
func double(number int) world.Step  { return world.Step{Op: world.Double, Index: number} }
func drop(number int) world.Step    { return world.Step{Op: world.Drop, Index: number} }
func tick(node int) world.Step      { return world.Step{Op: world.Tick, Node: node} }

func arm(node, write, bytes int) world.Step {
	return world.Step{Op: world.Arm, Node: node, Index: write, N: bytes}
}

func crash(node, keep int) world.Step   { return world.Step{Op: world.Crash, Node: node, N: keep} }
func restart(node, keep int) world.Step { return world.Step{Op: world.Restart, Node: node, N: keep} }
func fill(node, full int) world.Step    { return world.Step{Op: world.Fill, Node: node, N: full} }
func sign() world.Step                  { return world.Step{Op: world.Sign} }

func include(place, size int) world.Step {
	return world.Step{Op: world.Include, Index: place, N: size}
}

func extend(m, size int) world.Step { return world.Step{Op: world.Extend, Index: m, N: size} }

// The requests.

func text(name, s string) api.Field { return api.Field{Name: name, Kind: api.FieldText, Text: s} }

func quantity(name string, x float32, unit uint8) api.Field {
	return api.Field{Name: name, Kind: api.FieldQuantity, Value: x, Unit: unit}
}

// creates is R of the examples.
func creates(fields ...api.Field) api.Request {
	return api.Request{Actor: 1, Op: api.OpCreate, Ward: 7, Owner: 6, Fields: fields}
}

func reads(record uint32) api.Request {
	return api.Request{Actor: 6, Op: api.OpRead, Record: record}
}

// story is requests of all operations, done and refused: their answers have fields and histories.
func story() []api.Request {
	return []api.Request{
		creates(text("name", "Ada")),
		{Actor: 2, Op: api.OpAmend, Record: 1, Version: 1, Fields: []api.Field{quantity("temp", 37, 11)}},
		{Actor: 9, Op: api.OpRead, Record: 1},
		reads(1),
		{Actor: 6, Op: api.OpSeal, Record: 1, Version: 1},
		{Actor: 2, Op: api.OpRead, Record: 1},
		{Actor: 4, Op: api.OpBreak, Record: 1, Reason: "heart"},
		{Actor: 4, Op: api.OpRead, Record: 1, Version: 1},
		{Actor: 3, Op: api.OpAmend, Record: 1, Version: 2, Fields: []api.Field{{Name: "name", Kind: api.FieldGone}, text("note", "")}},
		{Actor: 3, Op: api.OpRedact, Record: 1, Version: 2},
		{Actor: 5, Op: api.OpHistory, Record: 1},
	}
}

// anyRequest tells one that has a form, of few records.
func anyRequest(r *rand.Rand) api.Request {
	l := append(story(), creates(), creates(quantity("temp", float32(r.Intn(50)), 11), text("who", strings.Repeat("x", r.Intn(60)))))
	q := l[r.Intn(len(l))]
	if r.Intn(3) == 0 {
		q.Actor = uint32(1 + r.Intn(7))
	}
	if q.Op != api.OpCreate {
		q.Record = uint32(1 + r.Intn(3))
	}
	return q
}

// formless are requests without a form.
func formless() []api.Request {
	return []api.Request{
		{},
		{Op: 8},
		{Op: 255, Actor: 1},
		{Actor: 1, Op: api.OpRead, Record: 1, Ward: 1},
		{Actor: 6, Op: api.OpSeal, Record: 1, Version: 2},
		{Actor: 4, Op: api.OpBreak, Record: 1, Reason: strings.Repeat("x", 65)},
		creates(text("b", ""), text("a", "")),
		creates(text("", "")),
		creates(quantity("t", float32(math.NaN()), 11)),
		creates(quantity("t", float32(math.Copysign(0, -1)), 11)),
		creates(make([]api.Field, 33)...),
	}
}

// told is what a step is to tell.
type told struct {
	e       api.Errno
	sent    []int
	answers []api.Answer
}

// does asks for what a step without bytes tells, each part of it.
func does(t testing.TB, w *world.World, s world.Step, want told) {
	t.Helper()
	got := w.Step(s)
	if got.E != want.e || !slices.Equal(got.Sent, want.sent) || tellAnswers(got.Answers) != tellAnswers(want.answers) || len(got.Bytes) != 0 {
		t.Fatalf("P18.3: %s: %s, want %+v", tellStep(s), tellSeen(got), want)
	}
}

// sends asks for the numbers that a step puts into the bag.
func sends(t testing.TB, w *world.World, s world.Step, sent ...int) {
	t.Helper()
	does(t, w, s, told{sent: sent})
}

// answers asks for what a client gets by a step.
func answers(t testing.TB, w *world.World, s world.Step, l ...api.Answer) {
	t.Helper()
	does(t, w, s, told{answers: l})
}

// refuses asks for an error, nothing beside it, and a world that is as it was.
func refuses(t testing.TB, w *world.World, s world.Step, want api.Errno) {
	t.Helper()
	was := seen(w)
	does(t, w, s, told{e: want})
	if now := seen(w); now != was {
		t.Errorf("R3, P18.3: %s is refused, and has turned\n%s\ninto\n%s", tellStep(s), was, now)
	}
}

// isLog asks for a node's log, by its requests' numbers of one client.
func isLog(t testing.TB, what string, w *world.World, node int, numbers ...uint32) {
	t.Helper()
	var got []uint32
	for place, ev := range w.Log(node) {
		if int64(ev.Place) != int64(place) {
			t.Errorf("P18.2: %s: the node %d has the place %d at %d", what, node, ev.Place, place)
		}
		got = append(got, ev.Request.Id.Number)
	}
	if !slices.Equal(got, numbers) {
		t.Errorf("P18.2: %s: the node %d has the requests %d, want %d", what, node, got, numbers)
	}
}

// isBag asks for the numbers under way.
func isBag(t testing.TB, what string, w *world.World, numbers ...int) {
	t.Helper()
	if got := w.Bag(); !slices.Equal(got, numbers) {
		t.Errorf("P18.2: %s: Bag: %d, want %d", what, got, numbers)
	}
}

// isMessage asks for one that is under way.
func isMessage(t testing.TB, w *world.World, number, from, to int, want api.Message) {
	t.Helper()
	f, o, m, ok := w.Message(number)
	if f != from || o != to || !ok || tellMessage(m) != tellMessage(want) {
		t.Errorf("P18.2: Message(%d): from %d to %d, %s, %v; want from %d to %d, %s", number, f, o, tellMessage(m), ok, from, to, tellMessage(want))
	}
}

// isNoMessage asks for none.
func isNoMessage(t testing.TB, w *world.World, number int) {
	t.Helper()
	if f, o, m, ok := w.Message(number); f != 0 || o != 0 || ok || tellMessage(m) != tellMessage(api.Message{}) {
		t.Errorf("P18.2, R2: Message(%d): from %d to %d, %s, %v; want none", number, f, o, tellMessage(m), ok)
	}
}

// isUp asks which nodes are up.
func isUp(t testing.TB, what string, w *world.World, want ...bool) {
	t.Helper()
	for node := range want {
		if w.Up(node) != want[node] {
			t.Errorf("P18.2: %s: Up(%d): %v", what, node, !want[node])
		}
	}
}

// waits asks for the numbers of what a client waits for.
func waits(t testing.TB, what string, w *world.World, client int, numbers ...uint32) {
	t.Helper()
	if got := w.Waiting(client); !slices.Equal(got, ids(client, numbers...)) {
		t.Errorf("P18.2: %s: Waiting(%d): %v, want %v", what, client, got, numbers)
	}
}

// got asks for the answers that a client has.
func got(t testing.TB, what string, w *world.World, client int, want ...api.Answer) {
	t.Helper()
	if l := w.Got(client); tellAnswers(l) != tellAnswers(want) {
		t.Errorf("P18.2: %s: Got(%d):\n%s, want\n%s", what, client, tellAnswers(l), tellAnswers(want))
	}
}

func ids(client int, numbers ...uint32) []api.Id {
	var l []api.Id
	for _, n := range numbers {
		l = append(l, id(client, n))
	}
	return l
}

func id(client int, number uint32) api.Id { return api.Id{Client: uint32(client), Number: number} }

// created is the answer to an OpCreate.
func created(of api.Id, record uint32) api.Answer {
	return api.Answer{Id: of, Record: record, Version: 1}
}

// with tells a request with an id.
func with(r api.Request, of api.Id) api.Request {
	r.Id = of
	return r
}

// The messages.

func request(r api.Request) api.Message { return api.Message{Kind: api.MsgRequest, Request: r} }
func ask(of api.Id) api.Message         { return api.Message{Kind: api.MsgAsk, Id: of} }
func answer(a api.Answer) api.Message   { return api.Message{Kind: api.MsgAnswer, Answer: a} }
func what() api.Message                 { return api.Message{Kind: api.MsgWhat} }
func give(ev api.Event) api.Message     { return api.Message{Kind: api.MsgGive, Event: ev} }

func have(length uint32) api.Message { return api.Message{Kind: api.MsgHave, Length: length} }

func busy(of api.Id, e api.Errno) api.Message {
	return api.Message{Kind: api.MsgBusy, Id: of, Code: uint8(e)}
}

// rounds plays fair ones: ticks, retries, then all that is in the bag, by rising numbers.
func rounds(w *world.World, clients, many int) {
	for range many {
		for node := range 3 {
			w.Step(tick(node))
		}
		for client := range clients {
			w.Step(retry(client))
		}
		for _, number := range w.Bag() {
			w.Step(deliver(number))
		}
	}
}

// drain lets all messages come, and what is sent by that.
func drain(t testing.TB, w *world.World) {
	t.Helper()
	for range 20 {
		for _, number := range w.Bag() {
			w.Step(deliver(number))
		}
	}
	isBag(t, "all has come", w)
}

// standing tells a world of so many clients whose requests are all done, and of which all messages have come.
func standing(t testing.TB, c api.Config, clients int, l ...api.Request) *world.World {
	t.Helper()
	w := made(t, c, clients)
	for i, r := range l {
		if x := w.Step(call(i%clients, r)); x.E != api.OK {
			t.Fatalf("P18.3: Call(%s): %d", tellRequest(r), x.E)
		}
		rounds(w, clients, 12)
	}
	drain(t, w)
	for client := range clients {
		waits(t, "all is done", w, client)
	}
	for _, node := range nodes {
		if n := len(w.Log(node)); n != len(l) {
			t.Fatalf("T5: the node %d has %d events of %d", node, n, len(l))
		}
	}
	return w
}

// teller is what tells of a world: one, or the words' one.
type teller interface {
	Up(node int) bool
	Log(node int) []api.Event
	Bag() []int
	Message(number int) (from, to int, m api.Message, ok bool)
	Waiting(client int) []api.Id
	Got(client int) []api.Answer
	Public() []byte
	Disk(node int) *disk.Disk
}

// seen tells all that can be seen of a world, and all that lies on its disks.
func seen(w teller) string {
	var b strings.Builder
	fmt.Fprintf(&b, "public %x\n", w.Public())
	for node := -1; node <= 3; node++ {
		fmt.Fprintln(&b, "node", node, w.Up(node), tellEvents(w.Log(node)))
	}
	fmt.Fprintln(&b, "bag", w.Bag())
	for _, number := range w.Bag() {
		from, to, m, ok := w.Message(number)
		fmt.Fprintln(&b, number, from, to, tellMessage(m), ok)
	}
	for client := -1; client <= 16; client++ {
		if l, g := w.Waiting(client), w.Got(client); len(l)+len(g) > 0 {
			fmt.Fprintln(&b, "client", client, l, tellAnswers(g))
		}
	}
	for _, node := range nodes {
		fmt.Fprintln(&b, "disk", node, laid(w.Disk(node)))
	}
	return b.String()
}

// laid tells all that lies on a disk, as far as it can be asked.
func laid(d *disk.Disk) string {
	var b strings.Builder
	fmt.Fprint(&b, d.Off(), d.Used(), d.Pending(), d.Writes())
	for _, name := range d.Names() {
		size, _ := d.Size(name)
		safe, _ := d.Synced(name)
		all, e := d.Read(name, 0, size)
		fmt.Fprintf(&b, "; %q: %d safe, %x %d", name, safe, all, e)
	}
	return b.String()
}

// The texts of things: those of two are one just if all their parts are, numbers by their bits; nil and an empty list are one.

func tellFields(l []api.Field) string {
	var b strings.Builder
	for _, f := range l {
		fmt.Fprintf(&b, "{%q %d %q %#x %d}", f.Name, f.Kind, f.Text, math.Float32bits(f.Value), f.Unit)
	}
	return b.String()
}

func tellAnswer(a api.Answer) string {
	return fmt.Sprint(a.Id, a.Code, a.Record, a.Version, "fields", tellFields(a.Fields), "history", a.History)
}

func tellAnswers(l []api.Answer) string {
	var b strings.Builder
	for _, a := range l {
		b.WriteString(tellAnswer(a) + "\n")
	}
	return b.String()
}

func tellRequest(r api.Request) string {
	return fmt.Sprintf("%v %d %d %d %d %d %d fields %s reason %q", r.Id, r.Actor, r.Op, r.Record, r.Version, r.Ward, r.Owner, tellFields(r.Fields), r.Reason)
}

func tellEvent(ev api.Event) string {
	return fmt.Sprintf("%d: %s: %d %x", ev.Place, tellRequest(ev.Request), ev.Code, ev.Digest)
}

func tellEvents(l []api.Event) string {
	var b strings.Builder
	for _, ev := range l {
		b.WriteString(tellEvent(ev) + "\n")
	}
	return b.String()
}

func tellMessage(m api.Message) string {
	return fmt.Sprint("kind ", m.Kind, "; ", tellRequest(m.Request), "; ", m.Id, "; ", tellAnswer(m.Answer), "; ", m.Code, "; ", tellEvent(m.Event), "; ", m.Length)
}

func tellStep(s world.Step) string {
	names := []string{"none", "Call", "Retry", "Deliver", "Double", "Drop", "Tick", "Arm", "Crash", "Restart", "Fill", "Sign", "Include", "Extend"}
	name := fmt.Sprint(s.Op)
	if s.Op >= 0 && s.Op < len(names) {
		name = names[s.Op]
	}
	told := fmt.Sprintf("%s(node %d, client %d, index %d, n %d)", name, s.Node, s.Client, s.Index, s.N)
	if s.Op == world.Call {
		told += " of op " + fmt.Sprint(s.Request.Op)
	}
	return told
}

func tellSteps(l []world.Step) string {
	var b strings.Builder
	for _, s := range l {
		b.WriteString(tellStep(s) + "; ")
	}
	return b.String()
}

func tellSeen(x world.Seen) string {
	return fmt.Sprintf("E %d, sent %d, answers %q, bytes %x", int(x.E), x.Sent, tellAnswers(x.Answers), x.Bytes)
}
