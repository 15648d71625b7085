package quant_test

import (
	"cmp"
	"math"
	"math/big"
	"math/rand"
	"slices"
	"testing"

	"almoner/api"
	"almoner/quant"
)

// The units' numbers, as the chapter has them.
const (
	g = iota + 1
	mg
	ug
	kg
	lb
	litre
	ml
	m
	cm
	in
	celsius
	fahrenheit
	kelvin
	kPa
	mmHg
	mmol
	mgdl
	perMin
	perSec
	percent
	one
)

func TestCanon(t *testing.T) {
	for _, x := range edges() {
		want := x
		if x == 0 {
			want = 0
		}
		if got, errno := quant.Canon(x); !alike(got, want) || errno != api.OK {
			t.Errorf("P6.1: Canon(%v): %v, %v", x, got, errno)
		}
	}
	for _, x := range noNumbers() {
		if got, errno := quant.Canon(x); !alike(got, 0) || errno != api.ERANGE {
			t.Errorf("P6.1: Canon(%v): %v, %v", x, got, errno)
		}
	}
}

func TestUnitsNamesAndSame(t *testing.T) {
	if quant.Units() != 21 {
		t.Errorf("P6.1: Units: %d", quant.Units())
	}
	names := []string{"", "g", "mg", "ug", "kg", "lb", "L", "mL", "m", "cm", "in", "C", "F", "K", "kPa", "mmHg", "mmol/L", "mg/dL", "/min", "/s", "%", "1"}
	for unit := range 256 {
		want := ""
		if unit < len(names) {
			want = names[unit]
		}
		if got := quant.Name(uint8(unit)); got != want {
			t.Errorf("P6.1: Name(%d): %q, want %q", unit, got, want)
		}
		for other := range 256 {
			if got := quant.Same(uint8(unit), uint8(other)); got != sameWord(uint8(unit), uint8(other)) {
				t.Errorf("P6.1: Same(%d, %d): %v", unit, other, got)
			}
		}
	}
	for _, no := range [][2]uint8{{0, 0}, {22, 22}, {255, 255}, {0, 1}, {21, 22}, {1, 6}} {
		if quant.Same(no[0], no[1]) {
			t.Errorf("P6.1: Same(%d, %d)", no[0], no[1])
		}
	}
}

func TestConvertExamples(t *testing.T) {
	for _, c := range []struct {
		x        float32
		from, to uint8
		want     float32
		errno    api.Errno
	}{
		{37, celsius, fahrenheit, 98.6, api.OK},
		{98.6, fahrenheit, celsius, 37, api.OK},
		{1, kg, g, 1000, api.OK},
		{3e38, kg, g, 0, api.ERANGE},
		{1e-45, mg, kg, 0, api.OK},
		{1, lb, kg, 0.45359236, api.OK},
		{90, mgdl, mmol, 4.9956703, api.OK},
		{1, g, litre, 0, api.EUNIT},
		{1, one, percent, 100, api.OK},
		{1, perSec, perMin, 60, api.OK},
		{1, in, cm, 2.54, api.OK},
		{760, mmHg, kPa, 101.325, api.OK},
		{0, celsius, kelvin, 273.15, api.OK},
		{0, kelvin, celsius, -273.15, api.OK},
		{0, kelvin, fahrenheit, -459.67, api.OK},
		{minusZero(), g, kg, 0, api.OK},
		{-1e-45, mg, kg, 0, api.OK},
	} {
		if got, errno := quant.Convert(c.x, c.from, c.to); !alike(got, c.want) || errno != c.errno {
			t.Errorf("P6.2: Convert(%v, %d, %d): %v, %v, want %v, %v", c.x, c.from, c.to, got, errno, c.want, c.errno)
		}
	}
}

func checkConvert(t *testing.T, x float32, from, to uint8) {
	t.Helper()
	want, wantErrno := convertWord(x, from, to)
	if got, errno := quant.Convert(x, from, to); !alike(got, want) || errno != wantErrno {
		t.Errorf("P6.2: Convert(%v, %d, %d): %v, %v, want %v, %v", x, from, to, got, errno, want, wantErrno)
	}
}

func TestConvertOverAllPairs(t *testing.T) {
	r := rand.New(rand.NewSource(6))
	for _, p := range pairs() {
		for _, x := range append(edges(), chance(r, 20)...) {
			checkConvert(t, x, p[0], p[1])
		}
		for _, x := range noNumbers() {
			if got, errno := quant.Convert(x, p[0], p[1]); !alike(got, 0) || errno != api.ERANGE {
				t.Errorf("P6.2: Convert(%v, %d, %d): %v, %v", x, p[0], p[1], got, errno)
			}
		}
	}
}

// TestConvertThereAndBack: both ways are the words', and what comes back is off by the roundings of two conversions at most.
func TestConvertThereAndBack(t *testing.T) {
	r := rand.New(rand.NewSource(7))
	for _, p := range pairs() {
		for _, x := range append(chance(r, 30), 1, -1, 0.1, 37, 98.6, 1e10, -1e10) {
			there, errno := quant.Convert(x, p[0], p[1])
			if errno != api.OK {
				continue
			}
			checkConvert(t, there, p[1], p[0])
			back, errno := quant.Convert(there, p[1], p[0])
			off := math.Abs(float64(back) - float64(x))
			if allowed := (math.Abs(float64(x))+600)*0x1p-22 + 0x1p-120; errno == api.OK && off > allowed && math.Abs(float64(there)) >= float64(normal) {
				t.Errorf("P6.2: %v from %d to %d and back is %v", x, p[0], p[1], back)
			}
		}
	}
}

func TestConvertIntoTheSameUnitIsCanon(t *testing.T) {
	r := rand.New(rand.NewSource(8))
	for unit := uint8(1); unit <= 21; unit++ {
		for _, x := range slices.Concat(edges(), noNumbers(), chance(r, 50)) {
			want, wantErrno := quant.Canon(x)
			if got, errno := quant.Convert(x, unit, unit); !alike(got, want) || errno != wantErrno {
				t.Errorf("P6.9: Convert(%v, %d, %d): %v, %v", x, unit, unit, got, errno)
			}
		}
	}
}

// TestConvertHalfway: of two numbers that are equally near the one with the even significand.
func TestConvertHalfway(t *testing.T) {
	for _, c := range []struct {
		x        float32
		from, to uint8
		want     float32
	}{
		{1<<20 + 1, m, cm, 104857696},          // 104857700 lies between ..696 and ..704
		{-(1<<20 + 1), m, cm, -104857696},      //
		{1<<20 + 3, m, cm, 104857904},          // 104857900 between ..896 and ..904
		{1<<21 + 1, perSec, perMin, 125829184}, // 125829180 between ..176 and ..184
		{500 * least, g, kg, 0},
		{501 * least, g, kg, least},
		{499 * least, g, kg, 0},
		{-500 * least, g, kg, 0},
		{-501 * least, g, kg, -least},
		{1500 * least, g, kg, 2 * least},
		{-1500 * least, g, kg, -2 * least},
		{2500 * least, g, kg, 2 * least},
		{50 * least, cm, m, 0},
		{51 * least, cm, m, least},
		{-50 * least, percent, one, 0},
		{30 * least, perMin, perSec, 0},
		{90 * least, perMin, perSec, 2 * least},
	} {
		if got, errno := quant.Convert(c.x, c.from, c.to); !alike(got, c.want) || errno != api.OK {
			t.Errorf("P6.2: Convert(%v, %d, %d): %v, %v, want %v", c.x, c.from, c.to, got, errno, c.want)
		}
	}
}

// TestConvertAtTheGreatest finds for each two units the greatest number that can be converted, and asks its neighbours.
func TestConvertAtTheGreatest(t *testing.T) {
	refused := 0
	for _, p := range pairs() {
		low, high := uint32(0), uint32(greatestBits+1)
		for high-low > 1 {
			middle := low + (high-low)/2
			if _, errno := convertWord(math.Float32frombits(middle), p[0], p[1]); errno == api.OK {
				low = middle
			} else {
				high = middle
			}
		}
		for bits := max(low, 2) - 2; bits <= min(low+3, greatestBits); bits++ {
			x := math.Float32frombits(bits)
			checkConvert(t, x, p[0], p[1])
			checkConvert(t, -x, p[0], p[1])
		}
		if low < greatestBits {
			refused++
			if _, errno := quant.Convert(math.Float32frombits(high), p[0], p[1]); errno != api.ERANGE {
				t.Errorf("P6.2: from %d to %d: %v", p[0], p[1], errno)
			}
		}
	}
	if refused < 20 {
		t.Errorf("only %d pairs lead beyond the greatest number", refused)
	}
}

// TestConvertIntoSubnormals goes through what becomes subnormal, or 0, for each two units.
func TestConvertIntoSubnormals(t *testing.T) {
	r := rand.New(rand.NewSource(9))
	for _, p := range pairs() {
		for range 30 {
			x := float32(math.Ldexp(float64(r.Intn(1<<24)), -150-r.Intn(30)+r.Intn(40)))
			checkConvert(t, x, p[0], p[1])
			checkConvert(t, -x, p[0], p[1])
		}
		for bits := range uint32(8) {
			checkConvert(t, math.Float32frombits(bits), p[0], p[1])
			checkConvert(t, math.Float32frombits(bits|1<<31), p[0], p[1])
		}
	}
}

// TestUnlikeUnits asks all two units that measure no one thing; the units are asked ahead of the numbers.
func TestUnlikeUnits(t *testing.T) {
	for a := range 256 {
		for b := range 256 {
			if sameWord(uint8(a), uint8(b)) {
				continue
			}
			for _, x := range []float32{1, nan(), infinity(-1)} {
				if got, errno := quant.Convert(x, uint8(a), uint8(b)); !alike(got, 0) || errno != api.EUNIT {
					t.Fatalf("P6.2: Convert(%v, %d, %d): %v, %v", x, a, b, got, errno)
				}
				if got, errno := quant.Compare(x, uint8(a), 0, uint8(b)); got != 0 || errno != api.EUNIT {
					t.Fatalf("P6.2: Compare(%v, %d, 0, %d): %v, %v", x, a, b, got, errno)
				}
				if got, errno := quant.Compare(0, uint8(a), x, uint8(b)); got != 0 || errno != api.EUNIT {
					t.Fatalf("P6.2: Compare(0, %d, %v, %d): %v, %v", a, x, b, got, errno)
				}
			}
		}
	}
}

func TestCompareExamples(t *testing.T) {
	for _, c := range []struct {
		x    float32
		a    uint8
		y    float32
		b    uint8
		want int
	}{
		{37, celsius, 98.6, fahrenheit, 1},
		{1, in, 2.54, cm, 1},
		{-40, celsius, -40, fahrenheit, 0},
		{1, kg, 1000, g, 0},
		{1, g, 1000000, ug, 0},
		{50, in, 127, cm, 0},
		{1, one, 100, percent, 0},
		{0.5, perSec, 30, perMin, 0},
		{100, celsius, 212, fahrenheit, 0},
		{0, g, minusZero(), kg, 0},
		{-1, g, -1, kg, 1},
		{1, g, 1, kg, -1},
		{0, kelvin, -273.15, celsius, -1},         // the nearest number to -273.15 is above it
		{0, kelvin, -459.67, fahrenheit, 1},       // that to -459.67 is below it
		{least, g, least, kg, -1},                 // no rounding of the one tells it apart from 0 kg
		{least, ug, 0, kg, 1},                     //
		{-least, ug, 0, kg, -1},                   //
		{greatest, kg, greatest, g, 1},            // neither in the other's unit is a number
		{-greatest, kg, -greatest, g, -1},         //
		{greatest, kelvin, greatest, celsius, -1}, // they differ by 273.15 K
		{least, celsius, 0, celsius, 1},           //
		{least, celsius, 32, fahrenheit, 1},       // 32 F is 0 C
		{-least, celsius, 32, fahrenheit, -1},     //
		{0, celsius, 32, fahrenheit, 0},           //
		{0, celsius, 0x1.000002p+5, fahrenheit, -1},
	} {
		if got, errno := quant.Compare(c.x, c.a, c.y, c.b); got != c.want || errno != api.OK {
			t.Errorf("P6.2: Compare(%v, %d, %v, %d): %d, %v, want %d", c.x, c.a, c.y, c.b, got, errno, c.want)
		}
		if got, errno := quant.Compare(c.y, c.b, c.x, c.a); got != -c.want || errno != api.OK {
			t.Errorf("P6.2: Compare(%v, %d, %v, %d): %d, %v, want %d", c.y, c.b, c.x, c.a, got, errno, -c.want)
		}
	}
}

func checkCompare(t *testing.T, x float32, a uint8, y float32, b uint8) int {
	t.Helper()
	want := quantityWord(x, a).Cmp(quantityWord(y, b))
	if got, errno := quant.Compare(x, a, y, b); got != want || errno != api.OK {
		t.Errorf("P6.2: Compare(%v, %d, %v, %d): %d, %v, want %d", x, a, y, b, got, errno, want)
	}
	return want
}

// TestCompareNextToEachOther holds quantities against what they are in another unit, rounded, and against its neighbours: they differ by less than a rounding.
func TestCompareNextToEachOther(t *testing.T) {
	r := rand.New(rand.NewSource(10))
	var seen [3]int
	for _, p := range pairs() {
		for _, x := range append(edges(), chance(r, 30)...) {
			y, errno := quant.Convert(x, p[0], p[1])
			if errno != api.OK {
				continue
			}
			for _, near := range []float32{math.Nextafter32(y, -greatest), y, math.Nextafter32(y, greatest)} {
				seen[checkCompare(t, x, p[0], near, p[1])+1]++
			}
		}
	}
	if slices.Min(seen[:]) < 100 {
		t.Errorf("hardly all answers were seen: %v", seen)
	}
}

func TestCompareOfNoNumbers(t *testing.T) {
	for _, p := range pairs() {
		for _, no := range noNumbers() {
			for _, two := range [][2]float32{{no, 1}, {1, no}, {no, no}} {
				if got, errno := quant.Compare(two[0], p[0], two[1], p[1]); got != 0 || errno != api.ERANGE {
					t.Errorf("P6.2: Compare(%v, %d, %v, %d): %d, %v", two[0], p[0], two[1], p[1], got, errno)
				}
			}
		}
	}
}

func TestCompareInOneUnitIsThatOfTheNumbers(t *testing.T) {
	for unit := uint8(1); unit <= 21; unit++ {
		for _, x := range edges() {
			for _, y := range []float32{x, -x, 0, minusZero(), 1, least, -least, greatest, -greatest, math.Nextafter32(x, 0)} {
				if got, errno := quant.Compare(x, unit, y, unit); got != cmp.Compare(x, y) || errno != api.OK {
					t.Errorf("P6.9: Compare(%v, %d, %v, %d): %d, %v", x, unit, y, unit, got, errno)
				}
			}
		}
	}
}

// TestCompareWithAGreaterOneIsNotLess goes through quantities of one line in their order.
func TestCompareWithAGreaterOneIsNotLess(t *testing.T) {
	type quantity struct {
		x    float32
		unit uint8
	}
	r := rand.New(rand.NewSource(11))
	for _, line := range [][]uint8{{g, mg, ug, kg, lb}, {celsius, fahrenheit, kelvin}, {m, cm, in}} {
		var l []quantity
		for _, unit := range line {
			for _, x := range append(chance(r, 10), 0, 1, -1, 1000, -40, least, greatest) {
				l = append(l, quantity{x, unit})
			}
		}
		slices.SortFunc(l, func(a, b quantity) int { return quantityWord(a.x, a.unit).Cmp(quantityWord(b.x, b.unit)) })
		for _, other := range l {
			last := -1
			for _, q := range l {
				got, errno := quant.Compare(q.x, q.unit, other.x, other.unit)
				if got < last || errno != api.OK {
					t.Errorf("P6.9: Compare(%v, %d, %v, %d) is %d behind %d", q.x, q.unit, other.x, other.unit, got, last)
				}
				last = got
			}
		}
	}
}

// TestTheWordsThemselves: the rounding that all is held against, where its answer is known.
func TestTheWordsThemselves(t *testing.T) {
	below := sub(noNumberFrom(), powerWord(-200))
	for _, c := range []struct {
		f    *big.Rat
		want float32
		ok   bool
	}{
		{noNumberFrom(), 0, false}, {below, greatest, true}, {powerWord(128), 0, false}, {powerWord(-150), 0, true},
		{add(powerWord(-150), powerWord(-400)), least, true}, {mul(whole(3), powerWord(-150)), 2 * least, true},
		{whole(1<<24 + 1), 1 << 24, true}, {whole(1<<24 + 3), 1<<24 + 4, true}, {whole(-(1<<24 + 3)), -(1<<24 + 4), true}, {fractionOf("0.1"), 0.1, true},
	} {
		if got, ok := roundWord(c.f); !alike(got, c.want) || ok != c.ok {
			t.Errorf("%v: %v, %v", c.f, got, ok)
		}
	}
}
