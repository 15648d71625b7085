package world_test

import (
	"math/rand"
	"slices"
	"testing"

	"almoner/api"
	"almoner/world"
)

// order tells the steps of a round, in one of several orders; bag is what must come.
func order(r *rand.Rand, style, clients int, bag []int) []world.Step {
	var ticks, retries, comes []world.Step
	for _, node := range nodes {
		ticks = append(ticks, tick(node))
	}
	for client := range clients {
		retries = append(retries, retry(client))
	}
	for _, number := range bag {
		comes = append(comes, deliver(number))
	}
	back := slices.Clone(comes)
	slices.Reverse(back)
	switch style {
	case 0: // what a tick and a retry send waits a whole round
		return slices.Concat(ticks, retries, comes)
	case 1:
		return slices.Concat(ticks, retries, back)
	case 2: // they say what has come by then
		return slices.Concat(comes, ticks, retries)
	case 3:
		return slices.Concat(retries, back, ticks)
	case 4:
		slices.Reverse(ticks)
		return slices.Concat(ticks, comes, retries)
	}
	all := slices.Concat(ticks, retries, comes)
	r.Shuffle(len(all), func(i, k int) { all[i], all[k] = all[k], all[i] })
	return all
}

// more tells a step that a fair round may have beside what it must have.
func more(r *rand.Rand, w *world.World, clients int) world.Step {
	switch r.Intn(7) {
	case 0:
		return double(under(r, w))
	case 1:
		return tick(r.Intn(3))
	case 2:
		return retry(r.Intn(clients))
	case 3:
		return sign()
	case 4:
		return extend(r.Intn(3), r.Intn(6))
	}
	return deliver(under(r, w))
}

// round plays a fair one; with others, steps that need not be come between.
func (x *watch) round(r *rand.Rand, style int, others bool) {
	x.t.Helper()
	for _, s := range order(r, style, x.clients, x.w.Bag()) {
		for others && r.Intn(12) == 0 {
			x.step(more(r, x.w, x.clients))
		}
		x.step(s)
	}
}

// calm lets no disk be full, armed or off.
func (x *watch) calm(r *rand.Rand) {
	x.t.Helper()
	armed := [3]bool{}
	for _, s := range x.said {
		if s.Node < 0 || s.Node > 2 {
			continue
		}
		if s.Op == world.Arm {
			armed[s.Node] = true // or it was refused: then it crashes once more
		}
	}
	for _, node := range r.Perm(3) {
		x.step(fill(node, 0))
		if armed[node] && x.w.Up(node) {
			x.step(crash(node, r.Intn(100)))
		}
		if !x.w.Up(node) {
			x.step(restart(node, r.Intn(100)))
		}
	}
}

// run plays rounds, and asks for T5; it tells how near to the bound it came: the fewest rounds by which one was early.
func (x *watch) run(next func()) int {
	x.t.Helper()
	d := len(x.w.Log(2))
	waiting := map[api.Id]int{} // the round in which it is acknowledged, 0 for none yet
	for client := range x.clients {
		for _, of := range x.w.Waiting(client) {
			waiting[of] = 0
		}
	}
	for round := 1; round <= 2*len(x.called)+10; round++ {
		next()
		for of := range waiting {
			if waiting[of] == 0 && !slices.Contains(x.w.Waiting(int(of.Client)), of) {
				waiting[of] = round
			}
		}
	}
	early := 1 << 20
	for place, ev := range x.w.Log(2) {
		round, waited := waiting[ev.Request.Id]
		if !waited {
			continue
		}
		most := 2*(place+1-min(d, place+1)) + 10
		if round == 0 || round > most {
			x.fatal("T5: %v, at the place %d behind %d, is acknowledged in the round %d, want at most %d", ev.Request.Id, place, d, round, most)
		}
		early = min(early, most-round)
	}
	for client := range x.clients {
		if l := x.w.Waiting(client); len(l) != 0 {
			x.fatal("T5: %v wait", l)
		}
	}
	return early
}

// hasNoBusy tells whether no refusal is under way or was sent: else it was no fair run.
func (x *watch) hasNoBusy(since int) bool {
	for _, number := range x.w.Bag() {
		if _, _, m, _ := x.w.Message(number); m.Kind == api.MsgBusy && number > since {
			return false
		}
	}
	return true
}

// TestFairRuns: whatever was ahead of them, in many orders.
func TestFairRuns(t *testing.T) {
	r := rand.New(rand.NewSource(1815))
	early, waited := 1<<20, 0
	for i := range 120 {
		x := newWatch(t, sized(1+i%2, 2), 1+i%4)
		for range i % 5 * 40 {
			x.step(anyStep(r, x.w, x.clients, i%12))
		}
		for range i % 6 {
			x.step(call(r.Intn(x.clients), anyRequest(r)))
		}
		if i%2 == 0 { // else all that is late comes still
			for _, number := range x.w.Bag() {
				x.step(drop(number))
			}
		}
		x.calm(r)
		for client := range x.clients {
			waited += len(x.w.Waiting(client))
		}
		style, others, since := i%7, i%3 == 0, x.last
		early = min(early, x.run(func() {
			if i%7 == 6 {
				style = r.Intn(6)
			}
			x.round(r, style, others)
			if !x.hasNoBusy(since) {
				x.fatal("P18.4: a Busy in a fair run")
			}
		}))
		for _, node := range nodes {
			if len(x.logs[node]) != len(x.called) {
				x.fatal("T5: the node %d has %d events of %d", node, len(x.logs[node]), len(x.called))
			}
		}
	}
	if waited < 200 || early > 6 {
		t.Errorf("%d requests waited, the latest was %d rounds early: the runs are too poor", waited, early)
	}
}

// TestLongFairRuns: many requests at once, from nothing on, in the orders that let messages wait longest.
func TestLongFairRuns(t *testing.T) {
	r := rand.New(rand.NewSource(1816))
	for _, many := range []int{1, 2, 5, 20} {
		for style := range 6 {
			x := newWatch(t, sized(1, 0), 3)
			for i := range many {
				x.step(call(i%3, creates()))
			}
			for _, number := range x.w.Bag() {
				x.step(drop(number))
			}
			x.run(func() { x.round(r, style, false) })
		}
	}
}

// TestFairRunBehindLongLogs: a tail that was off for long gets one event behind the other.
func TestFairRunBehindLongLogs(t *testing.T) {
	r := rand.New(rand.NewSource(1817))
	for style := range 6 {
		for _, node := range []int{1, 2} {
			x := newWatch(t, sized(1, 0), 2)
			x.step(call(0, creates()))
			for range 8 {
				x.round(r, 0, false)
			}
			x.step(crash(node, 0))
			for i := range 16 {
				x.step(call(i%2, creates()))
				x.round(r, style, false)
			}
			x.step(restart(node, 0))
			x.run(func() { x.round(r, style, false) })
		}
	}
}
