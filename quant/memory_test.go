package quant_test

import (
	"slices"
	"testing"

	"almoner/quant"
)

const spare = 9

// roomy tells a copy of xs, behind which spare room lies that is filled.
func roomy(xs []float32) []float32 {
	l := slices.Concat(xs, repeated(-77, spare))
	return l[:len(xs)]
}

// unchanged tells whether a roomy copy is as it was, spare room too.
func unchanged(now, was []float32) bool {
	return allAlike(now[:len(was)+spare], roomy(was)[:len(was)+spare])
}

// given are lists to be handed in: what is taken, and what is refused.
func given() [][]float32 {
	return [][]float32{nil, {1}, {4, 1, 2}, {minusZero(), 3, minusZero(), -5}, {1, nan(), 2}, {greatest, greatest}, repeated(1, 4097)}
}

func TestWhatIsHandedInIsNotChanged(t *testing.T) {
	for _, xs := range given() {
		l := roomy(xs)
		for _, n := range []int{-1, 1, 2, 5} {
			quant.Tell(l)
			quant.Slope(l)
			quant.Window(l, n)
			quant.Alarm(l, 0, 2, n, 1)
			quant.Alarm(l, 2, 0, 1, n)
		}
		if !unchanged(l, xs) {
			t.Errorf("R4: %v was changed", xs[:min(len(xs), 9)])
		}
	}
}

// TestWhatIsToldIsNew changes what was told, spare room too: neither the numbers nor a second answer may change by that.
func TestWhatIsToldIsNew(t *testing.T) {
	for _, xs := range [][]float32{{4, 1, 2, 9, 9, 3}, {1}, {minusZero()}} {
		l := roomy(xs)
		for n := 1; n <= len(xs); n++ {
			one, _ := quant.Window(l, n)
			two, _ := quant.Window(l, n)
			was := slices.Clone(two)
			for i := range one[:cap(one)] {
				one[:cap(one)][i] = 55
			}
			if !unchanged(l, xs) || !allAlike(two, was) {
				t.Errorf("R4: what Window(%v, %d) tells is not new", xs, n)
			}
			a, _ := quant.Alarm(l, 0, 3, n, 1)
			b, _ := quant.Alarm(l, 0, 3, n, 1)
			wasAlarm := slices.Clone(b)
			for i := range a[:cap(a)] {
				a[:cap(a)][i] = !a[:cap(a)][i]
			}
			if !unchanged(l, xs) || !slices.Equal(b, wasAlarm) {
				t.Errorf("R4: what Alarm of %v tells is not new", xs)
			}
		}
	}
}

// TestWhatIsHandedInIsNotKept changes the numbers behind a call: what was told stays, and the next call tells of what is there then.
func TestWhatIsHandedInIsNotKept(t *testing.T) {
	l := []float32{4, 1, 2}
	means, _ := quant.Window(l, 1)
	alarms, _ := quant.Alarm(l, 2, 3, 1, 1)
	quant.Tell(l)
	quant.Slope(l)
	l[0], l[1], l[2] = 2, 5, 8
	if !allAlike(means, []float32{4, 1, 2}) || yeses(alarms) != "!!-" {
		t.Errorf("R4: what was told changed with the numbers: %v, %v", means, alarms)
	}
	if s, _ := quant.Tell(l); s.Sum != 15 || s.Least != 2 {
		t.Errorf("R5: Tell: %v", s)
	}
	if x, _ := quant.Slope(l); x != 3 {
		t.Errorf("R5: Slope: %v", x)
	}
}

// TestNilAndEmptyAreOne: R4.
func TestNilAndEmptyAreOne(t *testing.T) {
	for _, n := range []int{0, 1} {
		a, errnoA := quant.Window(nil, n)
		b, errnoB := quant.Window([]float32{}, n)
		c, errnoC := quant.Alarm(nil, 0, 1, n, 1)
		d, errnoD := quant.Alarm([]float32{}, 0, 1, n, 1)
		if len(a)+len(b)+len(c)+len(d) != 0 || errnoA != errnoB || errnoC != errnoD {
			t.Errorf("R4: an empty list is another than none")
		}
	}
	a, errnoA := quant.Tell(nil)
	b, errnoB := quant.Tell([]float32{})
	_, errnoC := quant.Slope(nil)
	_, errnoD := quant.Slope([]float32{})
	if a != b || errnoA != errnoB || errnoC != errnoD {
		t.Errorf("R4: an empty list is another than none")
	}
}
