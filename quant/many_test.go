package quant_test

import (
	"math"
	"math/rand"
	"slices"
	"testing"

	"almoner/api"
	"almoner/quant"
)

// repeated tells n times x.
func repeated(x float32, n int) []float32 { return slices.Repeat([]float32{x}, n) }

// lists are numbers to be summed up: few and many, of one size and of many, with and without what cancels out.
func lists(r *rand.Rand) [][]float32 {
	l := [][]float32{
		{0}, {minusZero()}, {minusZero(), minusZero()}, {0, minusZero()}, {1}, {-1}, {least}, {-least}, {greatest}, {-greatest}, {normal, -normal},
		{1, 2}, {1, 2, 4}, {16777216, 1, -16777216}, {16777216, 1, 1}, {1, 1, 16777216}, {0.1, 0.2, 0.3},
		{least, 0}, {-least, 0}, {least, least, 0}, {-least, 0, 0}, {least, -least, 0, 0, 0}, {3 * least, 0}, {-3 * least, 0}, {-least, -2 * least},
		{1e20, 1e20}, {1e20, -1e20}, {1.8e19, -1.8e19}, {1.85e19, -1.85e19}, {0x1p64, -0x1p64}, {math.Nextafter32(0x1p64, 0), -math.Nextafter32(0x1p64, 0)},
		{greatest, -greatest}, {greatest, greatest}, {-greatest, -greatest}, {greatest, greatest, -greatest, -greatest}, {greatest, least, -greatest}, {greatest, least}, {greatest, 0x1p103}, {greatest, -0x1p103},
		{0x1p127, 0x1p127}, {1e-30, -1e-30}, {1e-23, -1e-23}, {1e-22, 2e-22, 4e-22}, {1e38, 1e38, 1e38}, {1e38, 1e38, 1e38, 1e38},
	}
	for n := 1; n <= 40; n++ {
		l = append(l, chance(r, n), small(r, n), closeBy(r, n), repeated(chance(r, 1)[0], n))
	}
	return l
}

// small numbers have a sum and a spread; those close by have a spread that is far below the squares.
func small(r *rand.Rand, n int) []float32 {
	var l []float32
	for range n {
		l = append(l, float32(r.NormFloat64()*math.Pow(10, float64(r.Intn(20)-10))))
	}
	return l
}

func closeBy(r *rand.Rand, n int) []float32 {
	x := float32(math.Abs(r.NormFloat64()) * math.Pow(10, float64(r.Intn(40)-20)))
	var l []float32
	for range n {
		l = append(l, math.Float32frombits(math.Float32bits(x)+uint32(r.Intn(6))))
	}
	return l
}

func checkTell(t *testing.T, xs []float32) {
	t.Helper()
	want, wantErrno := tellWord(xs)
	if got, errno := quant.Tell(xs); !statsAlike(got, want) || errno != wantErrno {
		t.Errorf("P6.5: Tell(%v): %v, %v, want %v, %v", xs[:min(len(xs), 50)], got, errno, want, wantErrno)
	}
}

func TestTellExamples(t *testing.T) {
	for _, c := range []struct {
		xs    []float32
		want  quant.Stats
		errno api.Errno
	}{
		{[]float32{1, 2, 4}, quant.Stats{Count: 3, Least: 1, Greatest: 4, Sum: 7, Mean: 2.3333333, Spread: 1.5555556}, api.OK},
		{[]float32{16777216, 1, -16777216}, quant.Stats{Count: 3, Least: -16777216, Greatest: 16777216, Sum: 1, Mean: 0.33333334, Spread: 187649984473770.56}, api.OK},
		{nil, quant.Stats{}, api.OK},
		{[]float32{}, quant.Stats{}, api.OK},
		{[]float32{minusZero()}, quant.Stats{Count: 1}, api.OK},
		{[]float32{greatest}, quant.Stats{Count: 1, Least: greatest, Greatest: greatest, Sum: greatest, Mean: greatest}, api.OK},
		{[]float32{-greatest}, quant.Stats{Count: 1, Least: -greatest, Greatest: -greatest, Sum: -greatest, Mean: -greatest}, api.OK},
		{[]float32{1e20, 1e20}, quant.Stats{Count: 2, Least: 1e20, Greatest: 1e20, Sum: 2e20, Mean: 1e20}, api.OK}, // the squares have no number
		{[]float32{1e20, -1e20}, quant.Stats{}, api.ERANGE},                                                        // but for the spread all have one
		{[]float32{greatest, greatest}, quant.Stats{}, api.ERANGE},                                                 // but for the sum all have one
		{[]float32{-least, 0}, quant.Stats{Count: 2, Least: -least, Sum: -least}, api.OK},                          // the mean is rounded to 0, not to -0
		{[]float32{-3 * least, 0}, quant.Stats{Count: 2, Least: -3 * least, Sum: -3 * least, Mean: -2 * least}, api.OK},
	} {
		if got, errno := quant.Tell(c.xs); !statsAlike(got, c.want) || errno != c.errno {
			t.Errorf("P6.5: Tell(%v): %v, %v, want %v, %v", c.xs, got, errno, c.want, c.errno)
		}
	}
}

func TestTellIsTheWords(t *testing.T) {
	r := rand.New(rand.NewSource(15))
	for _, xs := range lists(r) {
		checkTell(t, xs)
	}
	for _, x := range edges() {
		checkTell(t, []float32{x})
		checkTell(t, []float32{x, x, x})
		checkTell(t, []float32{x, 1})
		checkTell(t, []float32{x, -x, minusZero()})
	}
}

// TestTellAtTheGreatest: 31 times 1082401 times 2^103 is 2^128 - 2^103; for other counts the greatest number is searched for that can be told so often, or with its opposite.
func TestTellAtTheGreatest(t *testing.T) {
	const x float32 = 1082401 * 0x1p103
	if got, errno := quant.Tell(repeated(x, 31)); !statsAlike(got, quant.Stats{}) || errno != api.ERANGE {
		t.Errorf("P6.5: a sum of 2^128 - 2^103: %v, %v", got, errno)
	}
	all := quant.Stats{Count: 4096, Least: greatest / 4096, Greatest: greatest / 4096, Sum: greatest, Mean: greatest / 4096}
	if got, errno := quant.Tell(repeated(greatest/4096, 4096)); !statsAlike(got, all) || errno != api.OK {
		t.Errorf("P6.5: a sum that is the greatest number: %v, %v", got, errno)
	}
	for n := 2; n <= 9; n++ {
		for _, of := range []func(x float32) []float32{
			func(x float32) []float32 { return repeated(x, n) },
			func(x float32) []float32 { return append(repeated(-x, n-1), x) },
			func(x float32) []float32 { return append(repeated(0, n-1), -x) },
		} {
			low, high := uint32(0), uint32(greatestBits)
			for high-low > 1 {
				middle := low + (high-low)/2
				if _, errno := tellWord(of(math.Float32frombits(middle))); errno == api.OK {
					low = middle
				} else {
					high = middle
				}
			}
			for bits := low - 2; bits <= min(high+2, greatestBits); bits++ {
				checkTell(t, of(math.Float32frombits(bits)))
			}
		}
	}
}

func TestTellOfManyNumbers(t *testing.T) {
	r := rand.New(rand.NewSource(16))
	checkTell(t, small(r, api.MaxEvents))
	checkTell(t, closeBy(r, api.MaxEvents))
	checkTell(t, repeated(0.1, api.MaxEvents))
	checkTell(t, repeated(-least, api.MaxEvents))
}

// TestTellInAnyOrder: P6.9.
func TestTellInAnyOrder(t *testing.T) {
	r := rand.New(rand.NewSource(17))
	for _, xs := range lists(r) {
		want, wantErrno := quant.Tell(xs)
		other := slices.Clone(xs)
		for range 5 {
			r.Shuffle(len(other), func(i, j int) { other[i], other[j] = other[j], other[i] })
			if got, errno := quant.Tell(other); !statsAlike(got, want) || errno != wantErrno {
				t.Errorf("P6.9: Tell(%v) is %v, %v, of %v it is %v, %v", xs, want, wantErrno, other, got, errno)
			}
		}
	}
}

// TestTellKeepsItsOrder: P6.9.
func TestTellKeepsItsOrder(t *testing.T) {
	r := rand.New(rand.NewSource(18))
	for _, xs := range lists(r) {
		s, errno := quant.Tell(xs)
		if errno != api.OK {
			continue
		}
		if s.Least > s.Mean || s.Mean > s.Greatest || s.Spread < 0 {
			t.Errorf("P6.9: Tell(%v): %v", xs, s)
		}
		for _, x := range xs {
			same, errno := quant.Tell(repeated(x, 7))
			c, _ := quant.Canon(x)
			if errno == api.OK && (same.Spread != 0 || !alike(same.Mean, c) || !alike(same.Least, c) || !alike(same.Greatest, c)) {
				t.Errorf("P6.9: Tell of seven times %v: %v", x, same)
			}
		}
	}
}

func checkSlope(t *testing.T, xs []float32) {
	t.Helper()
	want, wantErrno := slopeWord(xs)
	if got, errno := quant.Slope(xs); !alike(got, want) || errno != wantErrno {
		t.Errorf("P6.6: Slope(%v): %v, %v, want %v, %v", xs[:min(len(xs), 50)], got, errno, want, wantErrno)
	}
}

func TestSlopeExamples(t *testing.T) {
	for _, c := range []struct {
		xs    []float32
		want  float32
		errno api.Errno
	}{
		{[]float32{1, 3, 5}, 2, api.OK},
		{[]float32{1}, 0, api.EARG},
		{nil, 0, api.EARG},
		{[]float32{nan()}, 0, api.EARG}, // too few are told ahead of what is no number
		{[]float32{5, 3, 1}, -2, api.OK},
		{[]float32{7, 7}, 0, api.OK},
		{[]float32{minusZero(), minusZero()}, 0, api.OK},
		{[]float32{0, 0, 1}, 0.5, api.OK},
		{[]float32{1, 0, 0, 0}, -0.3, api.OK},
		{[]float32{greatest, greatest, greatest}, 0, api.OK},                   // no sum of them has a number
		{[]float32{0, greatest}, greatest, api.OK},                             //
		{[]float32{-greatest, greatest}, 0, api.ERANGE},                        // their sum has one, the slope none
		{[]float32{-greatest, 0, greatest}, greatest, api.OK},                  //
		{[]float32{greatest, 0, -greatest}, -greatest, api.OK},                 //
		{[]float32{-0x1p103, greatest}, 0, api.ERANGE},                         // 2^128 - 2^103
		{[]float32{0x1p103, -greatest}, 0, api.ERANGE},                         //
		{[]float32{-math.Nextafter32(0x1p103, 0), greatest}, greatest, api.OK}, // just below it
		{[]float32{0, 0, -least}, 0, api.OK},                                   // half of it below 0: 0, not -0
		{[]float32{0, 0, -3 * least}, -2 * least, api.OK},                      //
	} {
		if got, errno := quant.Slope(c.xs); !alike(got, c.want) || errno != c.errno {
			t.Errorf("P6.6: Slope(%v): %v, %v, want %v, %v", c.xs, got, errno, c.want, c.errno)
		}
	}
}

func TestSlopeIsTheWords(t *testing.T) {
	r := rand.New(rand.NewSource(19))
	for _, xs := range lists(r) {
		if len(xs) >= 2 {
			checkSlope(t, xs)
		}
	}
	for _, x := range edges() {
		checkSlope(t, []float32{x, 1})
		checkSlope(t, []float32{0, x, x})
		checkSlope(t, []float32{x, -x, x, 0})
		checkSlope(t, []float32{-x, x, 0, x, x})
	}
	checkSlope(t, small(r, api.MaxEvents))
	checkSlope(t, closeBy(r, api.MaxEvents))
	checkSlope(t, repeated(greatest, api.MaxEvents))
	checkSlope(t, append(repeated(-greatest, api.MaxEvents/2), repeated(greatest, api.MaxEvents/2)...))
}

// TestSlopeFromTheEnd: P6.9.
func TestSlopeFromTheEnd(t *testing.T) {
	r := rand.New(rand.NewSource(20))
	for _, xs := range lists(r) {
		other := slices.Clone(xs)
		slices.Reverse(other)
		x, errno := quant.Slope(xs)
		want, _ := quant.Canon(-x)
		if got, otherErrno := quant.Slope(other); !alike(got, want) || errno != otherErrno {
			t.Errorf("P6.9: Slope(%v) is %v, %v, from its end %v, %v", xs, x, errno, got, otherErrno)
		}
	}
}

func checkWindow(t *testing.T, xs []float32, n int) {
	t.Helper()
	want := windowWord(xs, n)
	if got, errno := quant.Window(xs, n); !allAlike(got, want) || errno != api.OK {
		t.Errorf("P6.7: Window(%v, %d): %v, %v, want %v", xs[:min(len(xs), 50)], n, got, errno, want)
	}
}

func TestWindowExamples(t *testing.T) {
	for _, c := range []struct {
		xs    []float32
		n     int
		want  []float32
		errno api.Errno
	}{
		{[]float32{1, 2, 4}, 2, []float32{1.5, 3}, api.OK},
		{[]float32{1}, 2, nil, api.OK},
		{nil, 1, nil, api.OK},
		{nil, 0, nil, api.EARG},
		{[]float32{1, 2, 4}, 1, []float32{1, 2, 4}, api.OK},
		{[]float32{1, 2, 4}, 3, []float32{2.3333333}, api.OK},
		{[]float32{1, 2, 4}, 4, nil, api.OK},
		{[]float32{1, 2, 4}, math.MaxInt, nil, api.OK},
		{[]float32{1, 2, 4}, 0, nil, api.EARG},
		{[]float32{1, 2, 4}, -1, nil, api.EARG},
		{[]float32{1, 2, 4}, math.MinInt, nil, api.EARG},
		{[]float32{nan()}, 0, nil, api.EARG}, // told ahead of what is no number
		{[]float32{nan()}, 1, nil, api.ERANGE},
		{[]float32{nan()}, 2, nil, api.ERANGE}, // asked though none is told
		{[]float32{minusZero(), minusZero()}, 1, []float32{0, 0}, api.OK},
		{[]float32{greatest, greatest, -greatest}, 2, []float32{greatest, 0}, api.OK},
		{[]float32{greatest, 1, -greatest, 1}, 2, []float32{greatest / 2, -greatest / 2, -greatest / 2}, api.OK},
		{[]float32{greatest, 1, -greatest, 1}, 3, []float32{0.33333334, -greatest / 3}, api.OK},
		{[]float32{-least, 0, -2 * least}, 2, []float32{0, -least}, api.OK},
	} {
		if got, errno := quant.Window(c.xs, c.n); !allAlike(got, c.want) || errno != c.errno {
			t.Errorf("P6.7: Window(%v, %d): %v, %v, want %v, %v", c.xs, c.n, got, errno, c.want, c.errno)
		}
	}
}

func TestWindowIsTheWords(t *testing.T) {
	r := rand.New(rand.NewSource(21))
	for i, xs := range lists(r) {
		for _, n := range []int{1, 2, 3, 1 + i%7, len(xs) - 1, len(xs), len(xs) + 1} {
			if n >= 1 {
				checkWindow(t, xs, n)
			}
		}
	}
	checkWindow(t, edges(), 1)
	checkWindow(t, edges(), 2)
	checkWindow(t, edges(), 5)
	many := small(r, api.MaxEvents)
	for _, n := range []int{2, api.MaxEvents - 2, api.MaxEvents, api.MaxEvents + 1} {
		checkWindow(t, many, n)
	}
}

// TestNoNumbersAreRefused puts one of them at each place.
func TestNoNumbersAreRefused(t *testing.T) {
	for _, no := range noNumbers() {
		for n := 2; n <= 5; n++ {
			for place := range n {
				xs := []float32{1, -2, 3, 4, 5}[:n]
				xs[place] = no
				if got, errno := quant.Tell(xs); !statsAlike(got, quant.Stats{}) || errno != api.ERANGE {
					t.Errorf("P6.5: Tell(%v): %v, %v", xs, got, errno)
				}
				if got, errno := quant.Slope(xs); !alike(got, 0) || errno != api.ERANGE {
					t.Errorf("P6.6: Slope(%v): %v, %v", xs, got, errno)
				}
				if got, errno := quant.Window(xs, 2); len(got) != 0 || errno != api.ERANGE {
					t.Errorf("P6.7: Window(%v, 2): %v, %v", xs, got, errno)
				}
				if got, errno := quant.Alarm(xs, 0, 1, 1, 1); len(got) != 0 || errno != api.ERANGE {
					t.Errorf("P6.8: Alarm(%v, 0, 1, 1, 1): %v, %v", xs, got, errno)
				}
			}
		}
	}
}

// TestTooManyAreRefused ahead of all else.
func TestTooManyAreRefused(t *testing.T) {
	for _, n := range []int{api.MaxEvents + 1, api.MaxEvents + 2, 2 * api.MaxEvents, 1 << 17} {
		for _, x := range []float32{0, nan()} {
			xs := repeated(x, n)
			if got, errno := quant.Tell(xs); !statsAlike(got, quant.Stats{}) || errno != api.ELIMIT {
				t.Errorf("P6.5: Tell of %d: %v, %v", n, got, errno)
			}
			if got, errno := quant.Slope(xs); !alike(got, 0) || errno != api.ELIMIT {
				t.Errorf("P6.6: Slope of %d: %v, %v", n, got, errno)
			}
			for _, size := range []int{0, 1, n, math.MinInt, math.MaxInt} {
				if got, errno := quant.Window(xs, size); len(got) != 0 || errno != api.ELIMIT {
					t.Errorf("P6.7: Window of %d by %d: %v, %v", n, size, got, errno)
				}
			}
			for _, c := range [][2]int{{1, 1}, {0, 1}, {1, 0}} {
				if got, errno := quant.Alarm(xs, 2, x, c[0], c[1]); len(got) != 0 || errno != api.ELIMIT {
					t.Errorf("P6.8: Alarm of %d: %v, %v", n, got, errno)
				}
			}
		}
	}
}
