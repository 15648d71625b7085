package net_test

import (
	"fmt"
	"math/rand"
	"slices"
	"strings"
	"testing"

	"almoner/api"
	"almoner/net"
)

// pair is a net and the words' one, that are called alike, and what P14.5 speaks of.
type pair struct {
	t    *testing.T
	n    *net.Net
	p    *plain
	said []string
	book book
}

func newPair(t *testing.T, places int) *pair {
	t.Helper()
	p, _ := newPlain(places)
	return &pair{t: t, n: made(t, places), p: p, book: newBook()}
}

// say keeps a call, and fails if the two answers are not one.
func (x *pair) say(call string, got, want any) {
	x.t.Helper()
	x.said = append(x.said, call)
	if fmt.Sprint(got) != fmt.Sprint(want) { // so nil and an empty list are one
		x.t.Fatalf("%s\nanswered %v, want %v", strings.Join(x.said, "; "), got, want)
	}
}

func (x *pair) send(from, to int, b []byte) {
	x.t.Helper()
	got, e := x.n.Send(from, to, b)
	want, f := x.p.send(from, to, b)
	x.say(fmt.Sprintf("Send(%d, %d, %v)", from, to, b), []any{got, e}, []any{want, f})
	if e == api.OK {
		x.book.come(got, fmt.Sprint(from, to, b))
	}
}

func (x *pair) copy(number int) {
	x.t.Helper()
	got, e := x.n.Copy(number)
	want, f := x.p.copy(number)
	x.say(fmt.Sprintf("Copy(%d)", number), []any{got, e}, []any{want, f})
	if e == api.OK {
		x.book.come(got, x.book.what[number])
	}
}

func (x *pair) deliver(number int) {
	x.t.Helper()
	got, e := x.n.Deliver(number)
	want, f := x.p.deliver(number)
	x.say(fmt.Sprintf("Deliver(%d)", number), []any{got, e}, []any{want, f})
	if e == api.OK {
		x.fault(x.book.deliver(number, got))
	}
}

func (x *pair) drop(number int) {
	x.t.Helper()
	e := x.n.Drop(number)
	x.say(fmt.Sprintf("Drop(%d)", number), e, x.p.drop(number))
	if e == api.OK {
		x.book.lost[x.book.what[number]]++
	}
}

// lose keeps what is lost by it: what was under way ahead of it, and is no more.
func (x *pair) lose(to int) {
	x.t.Helper()
	ahead := x.n.Waiting()
	x.say(fmt.Sprintf("Lose(%d)", to), x.n.Lose(to), x.p.lose(to))
	left := map[int]int{}
	for _, p := range x.n.Waiting() {
		left[p.Number]++
	}
	for _, p := range ahead {
		if left[p.Number] == 0 {
			x.book.lost[x.book.what[p.Number]]++
		}
	}
}

// look asks for all that can be seen of both, and for what follows.
func (x *pair) look() {
	x.t.Helper()
	kept := x.said
	waiting := x.n.Waiting()
	x.say("Waiting()", waiting, x.p.waiting())
	x.say("Count()", counted(x.n), x.p.count())
	c := counted(x.n)
	x.say("P14.5: sent and copied, delivered and lost and under way", c[0]+c[1], c[2]+c[3]+len(waiting))
	if !slices.IsSortedFunc(waiting, func(a, b net.Packet) int { return a.Number - b.Number }) {
		x.fault(fmt.Sprintf("P14.4: under way, not by their numbers: %v", waiting))
	}
	x.fault(x.book.atMost())
	x.said = kept
}

// fault fails, if there is one.
func (x *pair) fault(fault string) {
	x.t.Helper()
	if fault != "" {
		x.t.Fatalf("%s\n%s", strings.Join(x.said, "; "), fault)
	}
}

// book keeps by what a packet is (from where, to where, its bytes) how often it came in, was lost, and was delivered: out of the calls and what the net has answered alone.
type book struct {
	what                  map[int]string // by the numbers
	came, lost, delivered map[string]int
}

func newBook() book {
	return book{map[int]string{}, map[string]int{}, map[string]int{}, map[string]int{}}
}

func (b *book) come(number int, what string) {
	b.what[number] = what
	b.came[what]++
}

// deliver keeps a packet, and tells what P14.5 forbids, if that has come.
func (b *book) deliver(number int, p net.Packet) string {
	what := fmt.Sprint(p.From, p.To, p.Bytes)
	b.delivered[what]++
	if what != b.what[number] || p.Number != number {
		return fmt.Sprintf("P14.5: %d was %s, and %v is delivered", number, b.what[number], p)
	}
	return ""
}

// atMost tells what was delivered too often, if that has come.
func (b *book) atMost() string {
	for what, n := range b.delivered {
		if n > b.came[what]-b.lost[what] {
			return fmt.Sprintf("P14.5: %s came %d times, was lost %d times, and delivered %d times", what, b.came[what], b.lost[what], n)
		}
	}
	return ""
}

// TestAllShortScripts goes through all scripts of at most five calls out of some, with a look at the end of each.
func TestAllShortScripts(t *testing.T) {
	calls := []func(x *pair){
		func(x *pair) { x.send(0, 1, []byte{5}) },
		func(x *pair) { x.send(1, 0, nil) },
		func(x *pair) { x.send(0, 2, []byte{6}) },
		func(x *pair) { x.copy(1) },
		func(x *pair) { x.copy(2) },
		func(x *pair) { x.deliver(1) },
		func(x *pair) { x.deliver(3) },
		func(x *pair) { x.drop(2) },
		func(x *pair) { x.drop(4) },
		func(x *pair) { x.lose(0) },
		func(x *pair) { x.lose(1) },
	}
	var choose func(script []int)
	choose = func(script []int) {
		x := newPair(t, 2)
		for _, i := range script {
			calls[i](x)
		}
		x.look()
		if len(script) == 5 {
			return
		}
		for i := range calls {
			choose(append(script, i))
		}
	}
	choose(nil)
}

// anyPlace tells one of the net's, and at times what is none.
func (x *pair) anyPlace(r *rand.Rand) int {
	switch r.Intn(20) {
	case 0:
		return farNumbers[r.Intn(len(farNumbers))]
	case 1:
		return x.p.places + r.Intn(2)
	}
	return r.Intn(x.p.places)
}

// anyNumber tells one of a packet that is under way, mostly; at times of one that is gone, or of none.
func (x *pair) anyNumber(r *rand.Rand) int {
	l := x.p.waiting()
	switch {
	case r.Intn(20) == 0:
		return farNumbers[r.Intn(len(farNumbers))]
	case len(l) == 0 || r.Intn(5) == 0:
		return r.Intn(len(x.p.all) + 3)
	}
	return l[r.Intn(len(l))].Number
}

// anyBytes tells few, so that packets of the same are met again.
func anyBytes(r *rand.Rand) []byte {
	b := make([]byte, r.Intn(3))
	for i := range b {
		b[i] = byte(r.Intn(2))
	}
	return b
}

func (x *pair) anyCall(r *rand.Rand) {
	switch r.Intn(12) {
	case 0, 1, 2, 3:
		x.send(x.anyPlace(r), x.anyPlace(r), anyBytes(r))
	case 4, 5, 6:
		x.copy(x.anyNumber(r))
	case 7, 8:
		x.deliver(x.anyNumber(r))
	case 9, 10:
		x.drop(x.anyNumber(r))
	default:
		if r.Intn(3) == 0 {
			x.lose(x.anyPlace(r))
		}
	}
}

// TestAnyCallsInAnyOrder holds both nets against each other, behind every call, with whatever arguments.
func TestAnyCallsInAnyOrder(t *testing.T) {
	r := rand.New(rand.NewSource(1414))
	most := 0
	for i := range 300 {
		x := newPair(t, []int{1, 2, 3, 5, 19, 64}[i%6])
		for range 150 {
			x.anyCall(r)
			x.look()
			most = max(most, len(x.p.waiting()))
		}
		for _, p := range slices.Backward(x.n.Waiting()) {
			x.deliver(p.Number)
			x.look()
		}
	}
	if most < 20 {
		t.Errorf("no run had more than %d packets under way", most)
	}
}

// TestManyPackets: all calls end in time with as many packets as a long script may have.
func TestManyPackets(t *testing.T) {
	const many = 200000
	n := made(t, 64)
	for i := range many {
		n.Send(i%64, i%64, []byte{byte(i)})
		copies(t, n, 2*i+1, 2*i+2)
	}
	for number := 1; number <= many; number++ {
		if p, e := n.Deliver(2 * number); e != api.OK || p.Number != 2*number || p.Bytes[0] != byte(number-1) {
			t.Fatalf("P14.3: Deliver(%d): %v, %d", 2*number, p, e)
		}
	}
	for to := range 32 {
		loses(t, n, to, many/64)
	}
	last := 0
	for _, p := range n.Waiting() {
		if p.Number <= last || p.Number%2 == 0 || p.To < 32 || p.Bytes[0] != byte(p.Number/2) {
			t.Fatalf("P14.4: under way behind %d: %v", last, p)
		}
		last = p.Number
	}
	counts(t, "many", n, many, many, many, many/2)
}
