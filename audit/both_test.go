package audit_test

import (
	"math"
	"math/rand"
	"slices"
	"sync"
	"testing"

	"almoner/api"
	"almoner/audit"
	"almoner/record"
)

// anyField tells one of few names, most often a quantity that can be converted.
func anyField(r *rand.Rand) api.Field {
	f := quantity(oneOf(r, "a", "a", "b", ""), float32(r.Intn(100)), oneOf[uint8](r, 11, 11, 12, 13, 11, 8))
	if r.Intn(8) > 0 {
		f.Unit = oneOf[uint8](r, 11, 12, 13)
	}
	switch r.Intn(24) {
	case 0:
		f.Value = float(r.Uint32())
	case 1:
		f.Value = oneOf(r, notNumbers()...)
	case 2:
		f.Unit = uint8(r.Intn(256))
	case 3:
		f.Kind = oneOf[uint8](r, 0, 1, 3, 4, 255)
	case 4:
		f = text(f.Name, "x")
	}
	return f
}

// anyNumber tells a small one most often.
func anyNumber(r *rand.Rand) uint32 {
	if r.Intn(10) == 0 {
		return oneOf(r, 255, 256, 4095, 4096, 1<<31-1, 1<<31, most32-1, most32, r.Uint32())
	}
	return uint32(r.Intn(4))
}

// anyEvent tells one that nobody need have made.
func anyEvent(r *rand.Rand) api.Event {
	e := event(0, of(uint8(r.Intn(9)), anyNumber(r), anyNumber(r)))
	e.Place, e.Request.Version, e.Request.Ward, e.Request.Owner = anyNumber(r), anyNumber(r), 7*anyNumber(r), 6*anyNumber(r)
	e.Request.Id = api.Id{Client: anyNumber(r), Number: anyNumber(r)}
	if r.Intn(3) == 0 {
		e.Code = oneOf(r, codes...)
	}
	if r.Intn(20) == 0 {
		e.Request.Op = uint8(r.Intn(256))
	}
	for range r.Intn(6) {
		e.Request.Fields = append(e.Request.Fields, anyField(r))
	}
	e.Request.Reason = string(make([]byte, oneOf(r, 0, 0, 1, 64, 65)))
	e.Digest = make([]byte, oneOf(r, 0, 1, 2, 32, 33))
	r.Read(e.Digest)
	return e
}

// anyLog tells a list that nobody made.
func anyLog(r *rand.Rand) []api.Event {
	var log []api.Event
	for range r.Intn(30) {
		log = append(log, anyEvent(r))
	}
	return log
}

// anyMade tells a log that was made, at times with an event that is another one.
func anyMade(t testing.TB, r *rand.Rand, width int) []api.Event {
	l := oneOf(r, story(), more())
	if r.Intn(2) == 0 {
		r.Shuffle(len(l), func(i, k int) { l[i], l[k] = l[k], l[i] })
	}
	log := logOf(t, width, l[:r.Intn(len(l)+1)])
	for range r.Intn(3) {
		if len(log) > 0 {
			log[r.Intn(len(log))] = anyEvent(r)
		}
	}
	return log
}

func anyQuestion(r *rand.Rand, width int) question {
	q := question{number: anyNumber(r), field: oneOf(r, "a", "a", "b", "", "temp"), unit: oneOf[uint8](r, 11, 11, 12, 13, 8), width: width, staff: people}
	switch r.Intn(8) {
	case 0:
		q.unit = uint8(r.Intn(256))
	case 1:
		q.width = oneOf(r, -1, 0, 1, 2, 4, 32, 33, math.MinInt, math.MaxInt)
	case 2:
		q.staff = oneOf(r, nil, people[:5], []api.Staff{{Actor: 1, Role: 1, Ward: 7}, {Actor: 0, Role: 3, Ward: 7}, {Actor: 1, Role: 5}, {Actor: 9, Role: 77}})
	}
	return q
}

// TestAnyLists holds all calls against the words at lists that nobody made: no call panics, each ends.
func TestAnyLists(t *testing.T) {
	r := rand.New(rand.NewSource(2005))
	count, points := map[api.Errno]int{}, 0
	for range 8000 {
		log, q := anyLog(r), anyQuestion(r, 2)
		count[held(t, log, q).e]++
		l, _ := audit.Series(log, q.number, q.field, q.unit)
		points += len(l)
	}
	if points < 1000 || count[api.OK] < 1000 || count[api.EUNIT] < 500 || count[api.ERANGE] < 60 {
		t.Errorf("%d points, the errors %v: the lists are too poor", points, count)
	}
}

// TestAnyMadeLists holds all calls against the words at lists that were made, some with another event in them.
func TestAnyMadeLists(t *testing.T) {
	r := rand.New(rand.NewSource(2006))
	good, inside := 0, 0
	for range 3000 {
		width := 1 + r.Intn(4)
		log := anyMade(t, r, width)
		switch x := held(t, log, anyQuestion(r, width)); {
		case x.bad < 0 && len(log) > 0:
			good++
		case x.bad > 0:
			inside++
		}
	}
	if good < 500 || inside < 500 {
		t.Errorf("%d lists were a log, %d not from some place on: too few", good, inside)
	}
}

// TestAllShortLists: all lists of three out of a few events, each with its own number as its place.
func TestAllShortLists(t *testing.T) {
	few := []api.Event{
		event(0, of(api.OpCreate, 1, 0, temp(36))), event(0, of(api.OpCreate, 2, 2, temp(37))), event(5, of(api.OpCreate, 1, 1, temp(38))), event(0, of(api.OpAmend, 1, 1, quantity("temp", 98.6, 12))),
		event(0, of(api.OpAmend, 2, 2, temp(float(0x7fc00000)))), event(7, of(api.OpAmend, 1, 2, temp(39))), event(0, of(api.OpRead, 2, 1)), event(0, of(api.OpRead, 0, 0)), event(6, of(api.OpHistory, 1, 0)),
		event(0, of(api.OpBreak, 1, 1)), event(0, of(0, 1, 1, temp(40))), event(0, of(8, 2, 0)), event(0, of(api.OpSeal, 2, most32)), event(0, of(api.OpAmend, 1, 1, quantity("temp", 1, 8), text("temp", ""))),
	}
	for script := range len(few) * len(few) * len(few) {
		var log []api.Event
		for left := script; len(log) < 3; left /= len(few) {
			log = append(log, few[left%len(few)])
		}
		for n := range 4 {
			for number := range uint32(3) {
				held(t, placed(slices.Clone(log[:n])...), question{number: number, field: "temp", unit: 13, width: 1, staff: people})
			}
		}
	}
}

// told is all that the calls tell of a list.
type told struct {
	lines   []audit.Line
	places  []uint32
	points  []audit.Point
	errno   api.Errno
	answers []api.Answer
	bad     int
	report  string
}

func ask(log []api.Event, q question) told {
	var x told
	x.lines, x.places = audit.Access(log), audit.Trail(log, q.number)
	x.points, x.errno = audit.Series(log, q.number, q.field, q.unit)
	x.answers, x.bad = audit.Replay(q.width, q.staff, log)
	x.report = audit.Report(log)
	return x
}

func sameTold(a, b told) bool {
	return slices.Equal(a.lines, b.lines) && slices.Equal(a.places, b.places) && samePoints(a.points, b.points) && a.errno == b.errno && sameAnswers(a.answers, b.answers) && a.bad == b.bad && a.report == b.report
}

// TestOneAfterTheOther: R5: of the same list the same is told, whatever was told between.
func TestOneAfterTheOther(t *testing.T) {
	r := rand.New(rand.NewSource(2007))
	var logs [][]api.Event
	var questions []question
	var first []told
	for i := range 60 {
		log, q := anyLog(r), anyQuestion(r, 4)
		if i%2 == 0 {
			log = anyMade(t, r, 4)
		}
		logs, questions, first = append(logs, log), append(questions, q), append(first, ask(log, q))
	}
	for range 20 {
		for _, i := range r.Perm(len(logs)) {
			if !sameTold(ask(logs[i], questions[i]), first[i]) || !sameTold(ask(logs[i], questions[i]), first[i]) {
				t.Fatal("R5: the same list is told otherwise")
			}
		}
	}
	for range 4 {
		access(t, "nothing behind much", nil)
		audit.Report(logs[0])
		report(t, "nothing behind much", nil, "events 0\n")
		access(t, "little behind much", []api.Event{event(0, of(api.OpRead, 1, 1))}, lineOf(1, 1, reads))
	}
}

// TestAtOnce: R5: calls that run beside one another have nothing in common.
func TestAtOnce(t *testing.T) {
	r := rand.New(rand.NewSource(2008))
	q := question{number: 1, field: "temp", unit: 13, width: 4, staff: people}
	var all sync.WaitGroup
	for i := range 8 {
		log := anyLog(r)
		if i%2 == 0 {
			log = logOf(t, 4, more())
		}
		want := ask(log, q)
		all.Go(func() {
			for range 200 {
				if !sameTold(ask(log, q), want) {
					t.Error("R5: beside others a list is told otherwise")
				}
			}
		})
	}
	all.Wait()
}

// TestMapsHaveNoOrder: what is told of a list with many actors and records is the same each time.
func TestMapsHaveNoOrder(t *testing.T) {
	var log []api.Event
	for i := range uint32(400) {
		log = append(log, event(0, of(api.OpRead, i*7919%20, i*104729%31)))
	}
	want := accessWord(log)
	for range 100 {
		access(t, "many", log, want...)
	}
}

// TestManyFields: requests with very many fields, long texts, and very many events of one field.
func TestManyFields(t *testing.T) {
	fields := slices.Repeat([]api.Field{temp(37)}, 20000)
	l, e := audit.Series(creating(fields...), 1, "temp", 12)
	if e != api.OK || len(l) != 20000 || l[19999] != (audit.Point{Place: 0, Value: 98.6}) {
		t.Errorf("P20.3: of very many fields: %d points, %d", len(l), e)
	}
	log := slices.Repeat(creating(temp(37)), 20000)
	replay(t, "very many events", 4, people, log, 0)
	if answers := record.Answers(people, []api.Request{create(1, fields...)}); answers[0].Code != api.NoForm {
		t.Errorf("very many fields have a form: %+v", answers[0])
	}
}
