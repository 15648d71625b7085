package world_test

import (
	"fmt"
	"math/rand"
	"testing"

	"almoner/api"
	"almoner/world"
)

// pair is a world and the words' one, that are played alike.
type pair struct {
	t    *testing.T
	w    *world.World
	p    *plain
	said []world.Step
}

func newPair(t *testing.T, c api.Config, clients int) *pair {
	t.Helper()
	return &pair{t: t, w: made(t, c, clients), p: newPlain(c, clients)}
}

// step plays one in both, and fails if the two answers are not one.
func (x *pair) step(s world.Step) world.Seen {
	x.t.Helper()
	x.said = append(x.said, s)
	got, want := x.w.Step(s), x.p.step(s)
	if tellSeen(got) != tellSeen(want) {
		x.t.Fatalf("P18.3: %s\nthe last one: %s, want %s", tellSteps(x.said), tellSeen(got), tellSeen(want))
	}
	if got.E != api.OK && len(got.Answers)+len(got.Sent)+len(got.Bytes) != 0 {
		x.t.Fatalf("R2: %s: %s", tellSteps(x.said), tellSeen(got))
	}
	return got
}

// look asks for all that can be seen of both.
func (x *pair) look() {
	x.t.Helper()
	if got, want := seen(x.w), seen(x.p); got != want {
		x.t.Fatalf("P18.2: %s\n%s, want\n%s", tellSteps(x.said), got, want)
	}
}

// begin tells a pair with an event at the head, none behind it, and messages of some kinds under way.
func begin(t *testing.T) *pair {
	x := newPair(t, sized(1, 0), 2)
	for _, s := range []world.Step{call(0, creates()), deliver(1), tick(0), tick(1), deliver(3), deliver(5), call(1, reads(1))} {
		x.step(s)
	}
	return x
}

// TestAllShortScripts goes through all scripts of three steps out of some, with a look at the end, and one behind more of them.
func TestAllShortScripts(t *testing.T) {
	steps := []world.Step{
		call(0, creates()), call(1, api.Request{}), retry(1),
		deliver(2), deliver(4), deliver(6), deliver(7), deliver(9), deliver(10),
		double(6), drop(6), drop(9),
		tick(0), tick(1),
		arm(0, 1, 30), arm(1, 1, 1000), arm(2, 1, 25),
		crash(0, 0), crash(1, 1000), crash(2, 0),
		restart(0, 0), restart(1, 1000), restart(2, 25),
		fill(0, 1), fill(1, 1), fill(1, 0),
		sign(), include(0, 1), extend(0, 0),
	}
	begin(t).look()
	for i := range steps {
		for j := range steps {
			for k := range steps {
				x := begin(t)
				for _, s := range []world.Step{steps[i], steps[j], steps[k]} {
					x.step(s)
				}
				if (i+j+k)%7 == 0 {
					x.look()
				}
				for _, s := range []world.Step{tick(0), deliver(6), deliver(9), deliver(11), deliver(12), sign(), restart(1, 5)} {
					x.step(s)
				}
				x.look()
			}
		}
	}
}

// under tells the number of a message under way, of the last ones as often as of all; 1, if there is none.
func under(r *rand.Rand, w teller) int {
	l := w.Bag()
	if len(l) == 0 {
		return 1
	}
	if r.Intn(2) == 0 {
		l = l[max(0, len(l)-5):]
	}
	return l[r.Intn(len(l))]
}

// anyStep tells one that may well do something; the wilder it is, the more often something breaks.
func anyStep(r *rand.Rand, w teller, clients, wild int) world.Step {
	node, client := r.Intn(3), r.Intn(clients)
	if r.Intn(60) < wild {
		switch r.Intn(5) {
		case 0, 1:
			return arm(node, 1+r.Intn(2), r.Intn(200))
		case 2:
			return crash(node, r.Intn(200)-50)
		case 3:
			return fill(node, 1)
		}
		return drop(under(r, w))
	}
	for _, n := range []int{0, 1, 2} {
		if !w.Up(n) && r.Intn(8) == 0 {
			return restart(n, r.Intn(200)-50)
		}
	}
	switch k := r.Intn(60); {
	case k < 2:
		return call(client, anyRequest(r))
	case k < 4:
		return retry(client)
	case k < 6:
		return double(under(r, w))
	case k < 16:
		return tick(node)
	case k < 18:
		return fill(node, 0)
	case k < 20:
		return sign()
	case k < 21:
		return include(r.Intn(len(w.Log(2))+1), r.Intn(len(w.Log(2))+2))
	case k < 22:
		return extend(r.Intn(len(w.Log(2))+1), r.Intn(len(w.Log(2))+2))
	}
	return deliver(under(r, w))
}

// oddStep tells one whose numbers may be any.
func oddStep(r *rand.Rand) world.Step {
	any := func() int {
		switch r.Intn(4) {
		case 0:
			return r.Intn(6) - 2
		case 1:
			return noNumbers[r.Intn(len(noNumbers))]
		case 2:
			return int(r.Uint64())
		}
		return r.Intn(60)
	}
	s := world.Step{Op: r.Intn(17) - 1, Node: any(), Client: any(), Index: any(), N: any()}
	if r.Intn(20) == 0 {
		s.Op = any()
	}
	if r.Intn(2) == 0 {
		s.Request = anyRequest(r)
	} else if r.Intn(2) == 0 {
		s.Request = formless()[r.Intn(len(formless()))]
	}
	return s
}

// TestAnyScripts plays long ones in both: steps that do something, and such as have any numbers.
func TestAnyScripts(t *testing.T) {
	r := rand.New(rand.NewSource(1801))
	counts := map[string]int{}
	for i := range 120 {
		clients := 1 + i%4
		c := sized([]int{1, 2, 32}[i%3], i%2)
		if i%5 == 0 {
			c.Disk = 8192
		}
		x := newPair(t, c, clients)
		for k := range 300 {
			s := anyStep(r, x.p, clients, i%8)
			if r.Intn(12) == 0 {
				s = oddStep(r)
			}
			got := x.step(s)
			counts[fmt.Sprintf("op %d", s.Op)]++
			counts[fmt.Sprintf("error %d", int(got.E))]++
			counts["answers"] += len(got.Answers)
			if k%10 == 0 {
				x.look()
			}
		}
		x.look()
	}
	for _, what := range []string{"error 0", "error 1", "error 6", "error 15", "error 7", "answers", "op 1", "op 8", "op 9", "op 11", "op 13"} {
		if counts[what] < 30 {
			t.Errorf("the scripts are too poor: %d times %s", counts[what], what)
		}
	}
}
