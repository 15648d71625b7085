package quant_test

import (
	"math"
	"math/rand"
	"slices"
	"testing"

	"almoner/api"
	"almoner/quant"
)

// yeses tells which of numbers are an alarm, as a text of - and !.
func yeses(l []bool) string {
	b := make([]byte, len(l))
	for i := range l {
		b[i] = '-'
		if l[i] {
			b[i] = '!'
		}
	}
	return string(b)
}

// numbers tells 1 for each . of a text, 9 for each +, -9 for each -.
func numbers(text string) []float32 {
	var xs []float32
	for _, b := range []byte(text) {
		xs = append(xs, map[byte]float32{'.': 1, '+': 9, '-': -9}[b])
	}
	return xs
}

func TestAlarmExamples(t *testing.T) {
	got, errno := quant.Alarm([]float32{9, 1, 9, 9, 1, 9, 1, 1}, 0, 5, 2, 2)
	if yeses(got) != "---!!!!-" || errno != api.OK {
		t.Errorf("P6.8: %v, %v", got, errno)
	}
	for _, c := range []struct {
		xs         string
		rise, fall int
		want       string
	}{
		{"", 1, 1, ""},
		{"", math.MaxInt, math.MaxInt, ""},
		{"+", 1, 1, "!"},
		{".", 1, 1, "-"},
		{"+.+.", 1, 1, "!-!-"},   // begins and ends at once
		{"+-+-", 1, 1, "!!!!"},   //
		{"+-.+", 2, 1, "-!--"},   // above and below are one run
		{"+.-.+", 2, 1, "-----"}, // broken runs
		{"++..++..", 1, 2, "!!!-!!!-"},
		{"++..++..", 2, 1, "-!---!--"},
		{"++..++..", 2, 2, "-!!--!!-"},
		{"++.+.+..+", 2, 2, "-!!!!!!--"}, // the run that ends it begins anew with each that is not within
		{"+++.+++", 3, 1, "--!---!"},     // numbers ahead of the alarm count for no later one
		{"+++.++", 3, 1, "--!---"},
		{"...+++...+++", 3, 3, "-----!!!---!"},
		{"++++", 4, 1, "---!"},
		{"++++", 5, 1, "----"},
		{"++++", math.MaxInt, 1, "----"},
		{"+....", 1, 4, "!!!!-"},
		{"+....", 1, 5, "!!!!!"},
		{"+....", 1, math.MaxInt, "!!!!!"},
		{"..+", 1, 2, "--!"}, // those ahead of the beginning count for no end
		{"..+.", 1, 2, "--!!"},
		{"..+..", 1, 2, "--!!-"},
	} {
		if got, errno := quant.Alarm(numbers(c.xs), 0, 5, c.rise, c.fall); yeses(got) != c.want || errno != api.OK {
			t.Errorf("P6.8: %s by %d and %d: %s, %v, want %s", c.xs, c.rise, c.fall, yeses(got), errno, c.want)
		}
	}
}

// TestAlarmAtItsBounds: a number that is lo or hi is neither below nor above.
func TestAlarmAtItsBounds(t *testing.T) {
	for _, c := range []struct {
		lo, hi float32
		xs     []float32
		want   string
	}{
		{1, 2, []float32{1, 2, math.Nextafter32(1, 0), math.Nextafter32(2, 3), 1.5}, "--!!-"},
		{1, 1, []float32{1, math.Nextafter32(1, 0), 1, math.Nextafter32(1, 2), 1}, "-!-!-"},
		{0, 0, []float32{0, minusZero(), least, -least, 0}, "--!!-"},
		{minusZero(), 0, []float32{0, minusZero(), least, -least, 0}, "--!!-"},
		{0, minusZero(), []float32{0, minusZero(), least, -least, 0}, "--!!-"},
		{-least, least, []float32{-least, least, -2 * least, 2 * least, 0}, "--!!-"},
		{-normal, normal, []float32{-normal, normal, 0, -math.Nextafter32(normal, 1), math.Nextafter32(normal, 1)}, "---!!"},
		{-greatest, greatest, []float32{-greatest, greatest, 0, minusZero()}, "----"},
		{greatest, greatest, []float32{greatest, math.Nextafter32(greatest, 0), -greatest}, "-!!"},
		{-greatest, -greatest, []float32{-greatest, math.Nextafter32(-greatest, 0), greatest}, "-!!"},
	} {
		if got, errno := quant.Alarm(c.xs, c.lo, c.hi, 1, 1); yeses(got) != c.want || errno != api.OK {
			t.Errorf("P6.8: %v within %v and %v: %s, %v, want %s", c.xs, c.lo, c.hi, yeses(got), errno, c.want)
		}
	}
}

func TestAlarmIsTheWords(t *testing.T) {
	for n := range 11 { // all lists of numbers within and above
		for bits := range 1 << n {
			var xs []float32
			for i := range n {
				xs = append(xs, float32(bits>>i&1))
			}
			for rise := 1; rise <= 4; rise++ {
				for fall := 1; fall <= 4; fall++ {
					got, errno := quant.Alarm(xs, -1, 0.5, rise, fall)
					if want := alarmWord(xs, -1, 0.5, rise, fall); !slices.Equal(got, want) || errno != api.OK {
						t.Fatalf("P6.8: Alarm(%v, -1, 0.5, %d, %d): %s, %v, want %s", xs, rise, fall, yeses(got), errno, yeses(want))
					}
				}
			}
		}
	}
	r := rand.New(rand.NewSource(22))
	for range 300 {
		xs := small(r, r.Intn(60))
		lo, hi := anyOne(r), anyOne(r)
		lo, hi = min(lo, hi), max(lo, hi)
		rise, fall := 1+r.Intn(4), 1+r.Intn(4)
		got, errno := quant.Alarm(xs, lo, hi, rise, fall)
		if want := alarmWord(xs, lo, hi, rise, fall); !slices.Equal(got, want) || errno != api.OK {
			t.Errorf("P6.8: Alarm(%v, %v, %v, %d, %d): %s, %v, want %s", xs, lo, hi, rise, fall, yeses(got), errno, yeses(want))
		}
	}
}

func anyOne(r *rand.Rand) float32 { return small(r, 1)[0] }

func TestAlarmOfManyNumbers(t *testing.T) {
	xs := append(repeated(9, api.MaxEvents-1), 0)
	for rise := api.MaxEvents - 2; rise <= api.MaxEvents+1; rise++ {
		got, errno := quant.Alarm(xs, 0, 5, rise, 1)
		if want := alarmWord(xs, 0, 5, rise, 1); !slices.Equal(got, want) || errno != api.OK {
			t.Errorf("P6.8: %d numbers by %d: %v, %v", len(xs), rise, yeses(got), errno)
		}
	}
}

// TestAlarmRefuses: rise and fall ahead of what is no number, that ahead of the bounds' order.
func TestAlarmRefuses(t *testing.T) {
	one, bad := []float32{1}, []float32{1, infinity(1)}
	for _, c := range []struct {
		xs         []float32
		lo, hi     float32
		rise, fall int
		errno      api.Errno
	}{
		{nil, 0, 5, 0, 1, api.EARG}, {nil, 0, 5, 1, 0, api.EARG}, {one, 0, 5, -1, 1, api.EARG}, {one, 0, 5, 1, -1, api.EARG},
		{one, 0, 5, math.MinInt, 1, api.EARG}, {one, 0, 5, 1, math.MinInt, api.EARG}, {one, 0, 5, 0, math.MaxInt, api.EARG},
		{bad, 0, 5, 0, 1, api.EARG}, {bad, 0, 5, 1, 0, api.EARG}, {one, nan(), 5, 0, 1, api.EARG}, {one, 0, nan(), 1, 0, api.EARG},
		{nil, 5, 0, 1, 1, api.EARG}, {one, 1, math.Nextafter32(1, 0), 1, 1, api.EARG}, {one, least, 0, 1, 1, api.EARG}, {one, 0, -least, 1, 1, api.EARG}, {one, greatest, -greatest, 1, 1, api.EARG},
		{bad, 5, 0, 1, 1, api.ERANGE}, {bad, 0, 5, 1, 1, api.ERANGE},
		{one, infinity(1), 0, 1, 1, api.ERANGE}, {one, 0, infinity(-1), 1, 1, api.ERANGE}, {one, infinity(1), infinity(-1), 1, 1, api.ERANGE},
	} {
		if got, errno := quant.Alarm(c.xs, c.lo, c.hi, c.rise, c.fall); len(got) != 0 || errno != c.errno {
			t.Errorf("P6.8: Alarm(%v, %v, %v, %d, %d): %v, %v, want %v", c.xs, c.lo, c.hi, c.rise, c.fall, got, errno, c.errno)
		}
	}
	for _, no := range noNumbers() {
		for _, xs := range [][]float32{nil, one} {
			for _, bounds := range [][2]float32{{no, 1}, {1, no}, {no, no}} {
				if got, errno := quant.Alarm(xs, bounds[0], bounds[1], 1, 1); len(got) != 0 || errno != api.ERANGE {
					t.Errorf("P6.8: Alarm(%v, %v, %v, 1, 1): %v, %v", xs, bounds[0], bounds[1], got, errno)
				}
			}
		}
	}
}
