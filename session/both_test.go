package session_test

import (
	"fmt"
	"math/rand"
	"slices"
	"strings"
	"testing"

	"almoner/api"
	"almoner/session"
)

// pair is a session and the words' one, that are called alike.
type pair struct {
	t    *testing.T
	s    *session.Session
	p    *plain
	said []string
}

func newPair(t *testing.T, client uint32) *pair {
	t.Helper()
	p, _ := newPlain(client)
	return &pair{t: t, s: made(t, client), p: p}
}

// agree fails, if two answers are not one.
func agree[T comparable](x *pair, call string, got, want T) {
	x.t.Helper()
	if got != want {
		x.t.Fatalf("%s\n%s: %v, want %v", strings.Join(x.said, "; "), call, got, want)
	}
}

func (x *pair) call(r api.Request) {
	x.t.Helper()
	got, e := x.s.Call(r)
	want, f := x.p.call(r)
	x.said = append(x.said, fmt.Sprintf("Call(op %d)", r.Op))
	agree(x, "P17.2: the id", got, want)
	agree(x, "P17.2: the error", e, f)
}

func (x *pair) take(m api.Message) {
	x.t.Helper()
	got, want := x.s.Take(m), x.p.take(m)
	x.said = append(x.said, fmt.Sprintf("Take(%d, %v %d, %v %d %d)", m.Kind, m.Id, m.Code, m.Answer.Id, m.Answer.Code, m.Answer.Record))
	agree(x, "P17.4: the error", got, want)
}

// tell asks for all that is told of one id.
func (x *pair) tell(of api.Id) {
	x.t.Helper()
	a, ok := x.s.Answer(of)
	b, isRight := x.p.answer(of)
	agree(x, fmt.Sprintf("P17.5: Answer(%v)", of), ok, isRight)
	agree(x, fmt.Sprintf("P17.5: Answer(%v)", of), tellAnswer(a), tellAnswer(b))
	e, n := x.s.Busy(of)
	f, m := x.p.busyOf(of)
	agree(x, fmt.Sprintf("P17.5: Busy(%v)", of), e, f)
	agree(x, fmt.Sprintf("P17.5: Busy(%v), how many", of), n, m)
}

// look asks for all that can be seen of both, and for what follows.
func (x *pair) look() {
	x.t.Helper()
	waiting, done := x.s.Waiting(), x.s.Done()
	if want := x.p.waiting(); !slices.Equal(waiting, want) {
		agree(x, "P17.5: Waiting", fmt.Sprint(waiting), fmt.Sprint(want))
	}
	if want := x.p.answered(); !slices.Equal(done, want) {
		agree(x, "P17.5: Done", fmt.Sprint(done), fmt.Sprint(want))
	}
	head, tail := x.s.Out()
	first, second := x.p.out()
	agree(x, "P17.3: to the head", tellMessages(head), tellMessages(first))
	agree(x, "P17.3: to the tail", tellMessages(tail), tellMessages(second))
	for n := range uint32(len(x.p.all) + 2) {
		x.tell(id(x.p.client, n))
	}
	x.tell(id(x.p.client+1, 1))
}

// TestAllShortScripts goes through all scripts of at most five calls out of some, with a look at the end of each.
func TestAllShortScripts(t *testing.T) {
	calls := []func(x *pair){
		func(x *pair) { x.call(reads(7)) },
		func(x *pair) { x.call(api.Request{Op: 9}) },
		func(x *pair) { x.take(busy(id(3, 1), api.EFULL)) },
		func(x *pair) { x.take(busy(id(3, 2), api.EOFF)) },
		func(x *pair) { x.take(answer(id(3, 1), 1)) },
		func(x *pair) { x.take(answer(id(3, 2), 1)) },
		func(x *pair) { x.take(answer(id(3, 2), 2)) },
		func(x *pair) { x.take(answer(id(2, 1), 1)) },
	}
	var choose func(script []int)
	choose = func(script []int) {
		x := newPair(t, 3)
		for _, i := range script {
			calls[i](x)
		}
		x.look()
		if len(script) == 5 {
			return
		}
		for i := range calls {
			choose(append(script, i))
		}
	}
	choose(nil)
}

// anyId tells mostly one that was called; at times of another client, or of a number that was not.
func (x *pair) anyId(r *rand.Rand) api.Id {
	switch r.Intn(12) {
	case 0:
		return id(uint32(r.Intn(17)), uint32(r.Intn(5)))
	case 1:
		return id(x.p.client, uint32(len(x.p.all)+r.Intn(3)))
	case 2:
		return id(r.Uint32(), r.Uint32())
	}
	return id(x.p.client, uint32(r.Intn(len(x.p.all)+1)))
}

// anyField tells one of few, so that the same are met again; with any form and none.
func anyField(r *rand.Rand) api.Field {
	return api.Field{
		Name: []string{"", "a", "b"}[r.Intn(3)], Kind: uint8(r.Intn(4)), Text: []string{"", "x"}[r.Intn(2)],
		Value: []float32{0, minusZero, 1, nan(1), nan(2), nan(0)}[r.Intn(6)], Unit: uint8(r.Intn(2)),
	}
}

func anyFields(r *rand.Rand) []api.Field {
	var l []api.Field
	for range r.Intn(3) {
		l = append(l, anyField(r))
	}
	return l
}

func anyAnswer(r *rand.Rand, of api.Id) api.Answer {
	a := api.Answer{Id: of, Code: uint8(r.Intn(2)), Record: uint32(r.Intn(2))}
	if r.Intn(3) == 0 {
		a.Fields = anyFields(r)
	}
	for range r.Intn(2) {
		a.History = append(a.History, api.Summary{Author: uint32(r.Intn(2)), Redacted: r.Intn(2) == 0})
	}
	return a
}

// anyRequest tells one of any parts, mostly with a form.
func anyRequest(r *rand.Rand) api.Request {
	kinds := withForm()
	q := kinds[r.Intn(len(kinds))]
	q.Id = id(uint32(r.Intn(3)), r.Uint32())
	switch r.Intn(8) {
	case 0:
		q.Op = uint8(r.Intn(256))
	case 1:
		q.Ward = r.Uint32()
	case 2:
		q.Fields = anyFields(r)
	case 3:
		q.Version = uint32(r.Intn(3))
	}
	return q
}

func (x *pair) anyMessage(r *rand.Rand) api.Message {
	m := api.Message{Kind: []uint8{api.MsgAnswer, api.MsgBusy, uint8(r.Intn(256))}[r.Intn(3)], Id: x.anyId(r), Code: uint8(r.Intn(256)), Answer: anyAnswer(r, x.anyId(r))}
	if first, ok := x.p.answer(m.Answer.Id); ok && r.Intn(2) == 0 {
		m.Answer = first // doubled
	}
	if r.Intn(3) == 0 {
		m.Request, m.Length = anyRequest(r), r.Uint32()
		m.Event = api.Event{Place: r.Uint32(), Request: anyRequest(r), Digest: []byte{1}}
	}
	return m
}

// TestAnyCallsInAnyOrder holds both sessions against each other, behind every call, with whatever arguments.
func TestAnyCallsInAnyOrder(t *testing.T) {
	r := rand.New(rand.NewSource(1717))
	outcomes := map[api.Errno]int{}
	for i := range 200 {
		x := newPair(t, uint32(i%api.MaxClients))
		for range 60 {
			if r.Intn(4) == 0 {
				x.call(anyRequest(r))
			} else {
				m := x.anyMessage(r)
				x.take(m)
				outcomes[x.s.Take(m)]++ // the same once more
				x.p.take(m)
			}
			x.look()
		}
	}
	for _, e := range []api.Errno{api.OK, api.EARG, api.EBROKEN, api.ENONE} {
		if outcomes[e] < 50 {
			t.Errorf("P17.4: Take has answered %d only %d times", e, outcomes[e])
		}
	}
}

// TestAnyOldSession is one that has called all that it may.
func TestAnyOldSession(t *testing.T) {
	r := rand.New(rand.NewSource(171))
	x := newPair(t, 9)
	for range api.MaxEvents + 3 {
		x.call(reads(r.Uint32()))
		x.take(busy(x.anyId(r), api.Errno(r.Intn(16))))
		x.take(answer(x.anyId(r), uint32(r.Intn(2))))
	}
	x.call(api.Request{})
	x.look()
	if n := len(x.p.done); n < 1000 || n > api.MaxEvents-500 {
		t.Errorf("%d are answered", n)
	}
}
