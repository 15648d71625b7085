package quant_test

// The chapter's words, read plainly, over fractions and float32's own bits: what the package is held against.

import (
	"math"
	"math/big"
	"math/rand"
	"regexp"
	"slices"
	"strconv"
	"strings"

	"almoner/api"
	"almoner/quant"
)

// The numbers at which a kind of numbers begins or ends, as bits.
const (
	leastBits      = 1 // 2^-149
	subnormalsBits = 0x007fffff
	normalBits     = 0x00800000 // 2^-126
	greatestBits   = 0x7f7fffff
)

const (
	least    float32 = 0x1p-149
	normal   float32 = 0x1p-126
	greatest float32 = math.MaxFloat32
)

func minusZero() float32 { return float32(math.Copysign(0, -1)) }

func nan() float32 { return float32(math.NaN()) }

func infinity(sign int) float32 { return float32(math.Inf(sign)) }

// noNumbers are the float32 that no call takes.
func noNumbers() []float32 {
	l := []float32{infinity(1), infinity(-1), nan()}
	for _, bits := range []uint32{0x7f800001, 0x7fbfffff, 0x7fffffff, 0xff800001, 0xffc00000, 0xffffffff} {
		l = append(l, math.Float32frombits(bits))
	}
	return l
}

// edges are numbers at which something begins or ends, both signs of them, and their neighbours.
func edges() []float32 {
	bits := []uint32{0, leastBits, 2, 3, 5, subnormalsBits, normalBits, greatestBits - 1, greatestBits}
	for _, x := range []float32{1, 2, 3, 10, 60, 100, 1000, 0.1, 0.5, 0.001, 0.000001, 36.6, 37, 98.6, 90, 120, 273.15, 459.67, 1 << 22, 1 << 23, 1 << 24, 1 << 25, 1e10, 1e-10, 1e20, 1e38, 1e-38, 0x1p-125, 0x1p63, 0x1p64, 0x1p127} {
		b := math.Float32bits(x)
		bits = append(bits, b-1, b, b+1)
	}
	var l []float32
	for _, b := range bits {
		l = append(l, math.Float32frombits(b), math.Float32frombits(b|1<<31))
	}
	return l
}

// chance tells n numbers: all exponents, or small whole ones and their parts.
func chance(r *rand.Rand, n int) []float32 {
	var l []float32
	for len(l) < n {
		x := math.Float32frombits(r.Uint32())
		switch r.Intn(3) {
		case 0:
			x = float32(r.Intn(2001)-1000) / 10
		case 1:
			x = float32(r.Intn(1<<25)-1<<24) / float32(int(1)<<r.Intn(25))
		}
		if isNumberWord(x) {
			l = append(l, x)
		}
	}
	return l
}

func isNumberWord(x float32) bool { return math.Float32bits(x)&0x7f800000 != 0x7f800000 }

// alike holds two against each other bit by bit: -0 is not 0.
func alike(a, b float32) bool { return math.Float32bits(a) == math.Float32bits(b) }

func allAlike(a, b []float32) bool { return slices.EqualFunc(a, b, alike) }

func statsAlike(a, b quant.Stats) bool {
	return a.Count == b.Count && allAlike([]float32{a.Least, a.Greatest, a.Sum, a.Mean, a.Spread}, []float32{b.Least, b.Greatest, b.Sum, b.Mean, b.Spread})
}

// fractionOf tells a fraction written out: 5/9, 273.15, 8388608p-23.
func fractionOf(text string) *big.Rat {
	f, ok := new(big.Rat).SetString(text)
	if !ok {
		panic(text)
	}
	return f
}

func exactWord(x float32) *big.Rat { return fractionOf(strconv.FormatFloat(float64(x), 'b', -1, 32)) }

func add(a, b *big.Rat) *big.Rat { return new(big.Rat).Add(a, b) }
func sub(a, b *big.Rat) *big.Rat { return new(big.Rat).Sub(a, b) }
func mul(a, b *big.Rat) *big.Rat { return new(big.Rat).Mul(a, b) }
func quo(a, b *big.Rat) *big.Rat { return new(big.Rat).Quo(a, b) }
func whole(n int) *big.Rat       { return big.NewRat(int64(n), 1) }

func tenToWord(n int) *big.Rat { return fractionOf("1e" + strconv.Itoa(n)) }

// powerWord tells 2^n.
func powerWord(n int) *big.Rat { return fractionOf("1p" + strconv.Itoa(n)) }

// noNumberFrom is 2^128 - 2^103.
func noNumberFrom() *big.Rat { return sub(powerWord(128), powerWord(103)) }

// roundWord finds the two numbers around a fraction by halving all of them; false, if it has no number.
func roundWord(f *big.Rat) (float32, bool) {
	if f.Sign() < 0 {
		x, ok := roundWord(new(big.Rat).Neg(f))
		if x == 0 {
			return 0, ok
		}
		return -x, ok
	}
	if f.Cmp(noNumberFrom()) >= 0 {
		return 0, false
	}
	low, high := uint32(0), uint32(greatestBits+1) // low is at most f, high is above it
	for high-low > 1 {
		middle := low + (high-low)/2
		if exactWord(math.Float32frombits(middle)).Cmp(f) <= 0 {
			low = middle
		} else {
			high = middle
		}
	}
	if low == greatestBits {
		return greatest, true
	}
	down := sub(f, exactWord(math.Float32frombits(low)))
	up := sub(exactWord(math.Float32frombits(high)), f)
	if c := down.Cmp(up); c > 0 || c == 0 && high%2 == 0 { // the significand's last bit is the bits' last one
		return math.Float32frombits(high), true
	}
	return math.Float32frombits(low), true
}

// roundedWord tells a rounded number with the error that is due.
func roundedWord(f *big.Rat) (float32, api.Errno) {
	x, ok := roundWord(f)
	if !ok {
		return 0, api.ERANGE
	}
	return x, api.OK
}

// lines are the units, with their sizes, line by line; of temperatures the sizes are those of a degree.
var lines = [][][2]string{
	{{"g", "1"}, {"mg", "1/1000"}, {"ug", "1/1000000"}, {"kg", "1000"}, {"lb", "45359237/100000"}},
	{{"L", "1"}, {"mL", "1/1000"}},
	{{"m", "1"}, {"cm", "1/100"}, {"in", "254/10000"}},
	{{"C", "1"}, {"F", "5/9"}, {"K", "1"}},
	{{"kPa", "1"}, {"mmHg", "101325/760000"}},
	{{"mmol/L", "1"}, {"mg/dL", "10000/180156"}},
	{{"/min", "1"}, {"/s", "60"}},
	{{"%", "1"}, {"1", "100"}},
}

// lineWord tells a unit's line, its name and size; -1, if there is no such unit.
func lineWord(unit uint8) (line int, name, size string) {
	left := int(unit) - 1
	for line, units := range lines {
		if left >= 0 && left < len(units) {
			return line, units[left][0], units[left][1]
		}
		left -= len(units)
	}
	return -1, "", ""
}

func sameWord(a, b uint8) bool {
	la, _, _ := lineWord(a)
	lb, _, _ := lineWord(b)
	return la >= 0 && la == lb
}

// pairs are all two units that measure one thing.
func pairs() [][2]uint8 {
	var l [][2]uint8
	for a := range 256 {
		for b := range 256 {
			if sameWord(uint8(a), uint8(b)) {
				l = append(l, [2]uint8{uint8(a), uint8(b)})
			}
		}
	}
	return l
}

// quantityWord tells a quantity in its line's first unit, of temperatures in K.
func quantityWord(x float32, unit uint8) *big.Rat {
	_, name, size := lineWord(unit)
	f := exactWord(x)
	switch name {
	case "C":
		return add(f, fractionOf("273.15"))
	case "F":
		return mul(add(f, fractionOf("459.67")), fractionOf("5/9"))
	}
	return mul(f, fractionOf(size))
}

func convertWord(x float32, from, to uint8) (float32, api.Errno) {
	_, name, size := lineWord(to)
	f := quantityWord(x, from)
	switch name {
	case "C":
		return roundedWord(sub(f, fractionOf("273.15")))
	case "F":
		return roundedWord(sub(mul(f, fractionOf("9/5")), fractionOf("459.67")))
	}
	return roundedWord(quo(f, fractionOf(size)))
}

// told is a decimal number: whole digits, by 10^places.
type told struct{ digits, places int }

func (d told) fraction() *big.Rat { return mul(whole(d.digits), tenToWord(d.places)) }

// shortestWord goes through all decimal numbers of one digit, of two digits .. that are rounded to x, a number above 0.
func shortestWord(x float32) told {
	bits := math.Float32bits(x)
	exact := exactWord(x)
	from := quo(add(exact, exactWord(math.Float32frombits(bits-1))), whole(2))
	upTo := noNumberFrom()
	if bits != greatestBits {
		upTo = quo(add(exact, exactWord(math.Float32frombits(bits+1))), whole(2))
	}
	lowest := math.Log10(float64(x)) // a guess alone, for the places that are gone through
	for digits := 1; ; digits++ {
		var best *told
		for places := int(lowest) - digits - 2; places <= int(lowest)+2; places++ {
			for _, d := range between(quo(from, tenToWord(places)), quo(upTo, tenToWord(places)), digits) {
				c := told{d, places}
				if y, ok := roundWord(c.fraction()); !ok || y != x || d%10 == 0 {
					continue
				}
				if best == nil || nearer(c, *best, exact) {
					best = &c
				}
			}
		}
		if best != nil {
			return *best
		}
	}
}

// between tells the whole numbers of so many digits from from to upTo.
func between(from, upTo *big.Rat, digits int) []int {
	low, high := 1, 9
	for range digits - 1 {
		low, high = low*10, high*10+9
	}
	if whole(high).Cmp(from) < 0 || whole(low).Cmp(upTo) > 0 {
		return nil
	}
	f, _ := from.Float64()
	u, _ := upTo.Float64()
	var l []int
	for d := max(low, int(f)-1); d <= min(high, int(u)+1); d++ {
		l = append(l, d)
	}
	return l
}

func nearer(a, b told, exact *big.Rat) bool {
	offA, offB := sub(a.fraction(), exact), sub(b.fraction(), exact)
	c := offA.Abs(offA).Cmp(offB.Abs(offB))
	return c < 0 || c == 0 && a.digits%2 == 0
}

func formatWord(x float32, unit uint8) string {
	_, name, _ := lineWord(unit)
	switch {
	case x == 0:
		return "0 " + name
	case x < 0:
		return "-" + formatWord(-x, unit)
	}
	d := shortestWord(x)
	text := strconv.Itoa(d.digits)
	if d.places >= 0 {
		return text + strings.Repeat("0", d.places) + " " + name
	}
	text = strings.Repeat("0", max(1-d.places-len(text), 0)) + text
	point := len(text) + d.places
	return text[:point] + "." + text[point:] + " " + name
}

// textForm is a number and a name, of any unit or none.
var textForm = regexp.MustCompile(`\A(-?[0-9]+(?:\.[0-9]+)?) (.*)\z`)

// parseWord asks the library for the number.
func parseWord(text string) (float32, uint8, api.Errno) {
	if len(text) > 256 {
		return 0, 0, api.ELIMIT
	}
	parts := textForm.FindStringSubmatch(text)
	for unit := uint8(1); unit <= 21 && parts != nil; unit++ {
		if _, name, _ := lineWord(unit); name != parts[2] {
			continue
		}
		x, err := strconv.ParseFloat(parts[1], 32)
		if err != nil {
			return 0, 0, api.ERANGE
		}
		return float32(x + 0), unit, api.OK // -0 and 0 are 0
	}
	return 0, 0, api.EFORM
}

func totalWord(fs []*big.Rat) *big.Rat {
	total := new(big.Rat)
	for _, f := range fs {
		total.Add(total, f)
	}
	return total
}

func exactWords(xs []float32) []*big.Rat {
	var fs []*big.Rat
	for _, x := range xs {
		fs = append(fs, exactWord(x))
	}
	return fs
}

func meanWord(fs []*big.Rat) *big.Rat { return quo(totalWord(fs), whole(len(fs))) }

func tellWord(xs []float32) (quant.Stats, api.Errno) {
	if len(xs) == 0 {
		return quant.Stats{}, api.OK
	}
	fs := exactWords(xs)
	mean := meanWord(fs)
	var squares []*big.Rat
	for _, f := range fs {
		squares = append(squares, mul(sub(f, mean), sub(f, mean)))
	}
	sorted := slices.SortedFunc(slices.Values(fs), (*big.Rat).Cmp)
	s := quant.Stats{Count: len(xs)}
	for _, part := range []struct {
		into *float32
		f    *big.Rat
	}{{&s.Least, sorted[0]}, {&s.Greatest, sorted[len(sorted)-1]}, {&s.Sum, totalWord(fs)}, {&s.Mean, mean}, {&s.Spread, meanWord(squares)}} {
		x, errno := roundedWord(part.f)
		if errno != api.OK {
			return quant.Stats{}, errno
		}
		*part.into = x
	}
	return s, api.OK
}

// slopeWord goes by what each place and each number is off its mean.
func slopeWord(xs []float32) (float32, api.Errno) {
	fs := exactWords(xs)
	mean, middle := meanWord(fs), big.NewRat(int64(len(xs)-1), 2)
	rise, run := new(big.Rat), new(big.Rat)
	for i, f := range fs {
		off := sub(whole(i), middle)
		rise.Add(rise, mul(off, sub(f, mean)))
		run.Add(run, mul(off, off))
	}
	return roundedWord(quo(rise, run))
}

func windowWord(xs []float32, n int) []float32 {
	var l []float32
	for i := 0; i+n <= len(xs); i++ {
		x, _ := roundWord(meanWord(exactWords(xs[i : i+n])))
		l = append(l, x)
	}
	return l
}

// alarmWord asks at each number for the run that it is the last of, behind the last beginning or end.
func alarmWord(xs []float32, lo, hi float32, rise, fall int) []bool {
	l := make([]bool, len(xs))
	now, from := false, 0
	for i := range xs {
		need := rise
		if now {
			need = fall
		}
		run := 0
		for j := i; j >= from && (xs[j] < lo || xs[j] > hi) != now; j-- {
			run++
		}
		if run >= need {
			now, from = !now, i+1
		}
		l[i] = now
	}
	return l
}
