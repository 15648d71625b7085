package world_test

import (
	"math/rand"
	"testing"

	"almoner/api"
	"almoner/world"
)

// TestPlay: the steps one by one, in their order, refused ones too; of none nothing.
func TestPlay(t *testing.T) {
	r := rand.New(rand.NewSource(1803))
	for i := range 40 {
		clients := 1 + i%3
		w := made(t, sized(1, 1), clients)
		var l []world.Step
		var one []world.Seen
		for range 200 {
			s := anyStep(r, w, clients, i%8)
			if r.Intn(9) == 0 {
				s = oddStep(r)
			}
			l = append(l, s)
			one = append(one, w.Step(s))
		}
		for _, cut := range []int{0, 1, 77, 200} {
			other := made(t, sized(1, 1), clients)
			all := append(other.Play(l[:cut]), other.Play(l[cut:])...)
			if len(all) != len(l) {
				t.Fatalf("P18.3: Play of %d and %d steps tells %d", cut, len(l)-cut, len(all))
			}
			if tellAll(all) != tellAll(one) || seen(other) != seen(w) {
				t.Fatalf("P18.3: Play of %d and %d steps tells\n%s, one by one\n%s", cut, len(l)-cut, tellAll(all), tellAll(one))
			}
		}
	}
	w := made(t, sized(1, 0), 1)
	w.Step(call(0, creates()))
	was := seen(w)
	for _, none := range [][]world.Step{nil, {}, make([]world.Step, 0, 9)} {
		if x := w.Play(none); len(x) != 0 || seen(w) != was {
			t.Errorf("P18.3: Play of nothing tells %v", x)
		}
	}
	if x := w.Play(make([]world.Step, 3)); len(x) != 3 || x[2].E != api.EARG || seen(w) != was {
		t.Errorf("P18.3: Play of steps that are none tells %v", x)
	}
}

// TestWorldsApart: two, played step by step in turn, are as each alone.
func TestWorldsApart(t *testing.T) {
	r := rand.New(rand.NewSource(1804))
	for i := range 20 {
		c, d := sized(2, 1), sized(2, 1)
		if i%2 == 0 {
			d.Seed = []byte{7}
		}
		c.Staff = d.Staff // what is handed in may be one list
		first, second := made(t, c, 2), made(t, d, 2)
		var k, l []world.Step
		for range 200 {
			s := anyStep(r, first, 2, i%6)
			first.Step(s)
			k = append(k, s)
			s = anyStep(r, second, 2, i%6)
			second.Step(s)
			l = append(l, s)
		}
		alone, other := made(t, c, 2), made(t, d, 2)
		alone.Play(k)
		other.Play(l)
		if seen(first) != seen(alone) || seen(second) != seen(other) {
			t.Fatal("R5: two worlds have something in common")
		}
	}
}

// TestAskingChangesNothing: whatever is asked, as often as it is.
func TestAskingChangesNothing(t *testing.T) {
	r := rand.New(rand.NewSource(1807))
	w := made(t, sized(1, 1), 2)
	for range 300 {
		w.Step(anyStep(r, w, 2, 3))
		was := seen(w)
		for _, far := range append([]int{0, 1, 2, 3, 10, 11}, noNumbers...) {
			w.Up(far)
			w.Log(far)
			w.Message(far)
			w.Waiting(far)
			w.Got(far)
			w.Step(include(far, 2))
			w.Step(extend(far, far))
		}
		if seen(w) != was {
			t.Fatal("R3: asking has changed a world")
		}
	}
}

// TestAnyNumbers: steps of any Op with any numbers, and no others: none panics, and T1, T2, T4 hold.
func TestAnyNumbers(t *testing.T) {
	r := rand.New(rand.NewSource(1808))
	for i := range 40 {
		x := newWatch(t, sized(1+i%3, i%3), 1+i%16)
		for range 300 {
			x.step(oddStep(r))
		}
		x.calm(r)
		if len(x.called) < 20 {
			style := i % 6
			x.run(func() { x.round(r, style, false) })
		}
	}
}
