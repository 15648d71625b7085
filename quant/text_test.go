package quant_test

import (
	"math"
	"math/rand"
	"strconv"
	"strings"
	"testing"

	"almoner/api"
	"almoner/quant"
)

func TestFormatExamples(t *testing.T) {
	for _, c := range []struct {
		x    float32
		unit uint8
		want string
	}{
		{36.6, celsius, "36.6 C"},
		{-0.1, m, "-0.1 m"},
		{1e10, g, "10000000000 g"},
		{0.000001, litre, "0.000001 L"},
		{0, one, "0 1"},
		{minusZero(), mmol, "0 mmol/L"},
		{1, one, "1 1"},
		{-7, percent, "-7 %"},
		{100, perMin, "100 /min"},
		{0.01, g, "0.01 g"},                               // it is below 0.01
		{0.001, g, "0.001 g"},                             // it is above 0.001
		{16777216, g, "16777216 g"},                       // 16777215.5 to 16777217 are rounded to it, the ends too
		{33554432, g, "33554432 g"},                       //
		{33554430, g, "33554430 g"},                       //
		{8388607.5, g, "8388607.5 g"},                     //
		{2097152.25, g, "2097152.2 g"},                    // as near as .3
		{2097152.75, g, "2097152.8 g"},                    // as near as .7
		{-2097152.75, g, "-2097152.8 g"},                  //
		{131072.03125, g, "131072.03 g"},                  //
		{0x1p30, g, "1073741800 g"},                       // 1073741824
		{0x1p100, g, "1267650600000000000000000000000 g"}, //
		{0x1p-1, g, "0.5 g"},                              //
		{0x1p-20, g, "0.0000009536743 g"},                 //
		{0x1p-126, g, "0." + zeros(37) + "11754944 g"},    //
		{0x1p-149, g, "0." + zeros(44) + "1 g"},           // of 8, 9, 10 and 20 that are rounded to it the nearest
		{-0x1p-148, g, "-0." + zeros(44) + "3 g"},         //
		{0x1p-127, g, "0." + zeros(38) + "5877472 g"},     //
		{greatest, g, "34028235" + zeros(31) + " g"},      //
		{-greatest, g, "-34028235" + zeros(31) + " g"},    //
		{0x1p127, g, "17014118" + zeros(31) + " g"},       //
		{math.Nextafter32(1, 0), g, "0.99999994 g"},       //
		{math.Nextafter32(1, 2), g, "1.0000001 g"},        //
		{math.Float32frombits(subnormalsBits), g, "0." + zeros(37) + "11754942 g"},
	} {
		if got, errno := quant.Format(c.x, c.unit); got != c.want || errno != api.OK {
			t.Errorf("P6.3: Format(%v, %d): %q, %v, want %q", c.x, c.unit, got, errno, c.want)
		}
	}
}

func zeros(n int) string { return strings.Repeat("0", n) }

// texts are numbers to be told: those at edges, powers of two and of ten, their neighbours, and some by chance.
func texts(r *rand.Rand) []float32 {
	l := append(edges(), chance(r, 400)...)
	for n := -149; n <= 127; n++ {
		x := float32(math.Ldexp(1, n))
		l = append(l, x, -x, math.Nextafter32(x, 0), math.Nextafter32(x, greatest))
	}
	for n := -45; n <= 38; n++ {
		x, _ := strconv.ParseFloat("1e"+strconv.Itoa(n), 32)
		for digit := range 9 {
			if y := float32(digit+1) * float32(x); isNumberWord(y) {
				l = append(l, y)
			}
		}
	}
	for bits := range uint32(300) { // subnormals of few bits
		l = append(l, math.Float32frombits(bits))
	}
	for range 200 { // whole numbers of many digits, and numbers with two decimal ones equally near
		l = append(l, float32(math.Ldexp(float64(r.Intn(1<<24)), r.Intn(100))), float32(2097152+r.Intn(6000000))+0.25, float32(131072+r.Intn(390000))+1.0/32)
	}
	return l
}

func TestFormatIsTheWords(t *testing.T) {
	r := rand.New(rand.NewSource(12))
	for i, x := range texts(r) {
		unit := uint8(i%21 + 1)
		want := formatWord(x, unit)
		got, errno := quant.Format(x, unit)
		if got != want || errno != api.OK {
			t.Errorf("P6.3: Format(%v, %d): %q, %v, want %q", x, unit, got, errno, want)
		}
	}
}

// TestParseOfFormat goes through many more numbers; the library tells how many digits the fewest are, too.
func TestParseOfFormat(t *testing.T) {
	r := rand.New(rand.NewSource(13))
	for i, x := range append(texts(r), chance(r, 10000)...) {
		unit := uint8(i%21 + 1)
		text, errno := quant.Format(x, unit)
		if errno != api.OK {
			t.Fatalf("P6.3: Format(%v, %d): %v", x, unit, errno)
		}
		want, _ := quant.Canon(x)
		if y, u, errno := quant.Parse(text); !alike(y, want) || u != unit || errno != api.OK {
			t.Errorf("P6.4: Parse(%q): %v, %d, %v; it was told of %v", text, y, u, errno, x)
		}
		number := strings.TrimSuffix(text, " "+quant.Name(unit))
		if y, err := strconv.ParseFloat(number, 32); err != nil || float32(y) != x {
			t.Errorf("P6.3: %q is no number for %v", number, x)
		}
		if library := strconv.FormatFloat(float64(want), 'f', -1, 32); len(number) != len(library) {
			t.Errorf("P6.3: %v is told by %q, where %q would do", x, number, library)
		}
	}
}

func TestFormatRefuses(t *testing.T) {
	all := append(noNumbers(), edges()...)
	for _, unit := range []uint8{0, 22, 23, 128, 255} {
		for _, x := range all { // the unit is asked ahead of the number
			if got, errno := quant.Format(x, unit); got != "" || errno != api.EUNIT {
				t.Errorf("P6.3: Format(%v, %d): %q, %v", x, unit, got, errno)
			}
		}
	}
	for unit := uint8(1); unit <= 21; unit++ {
		for _, x := range noNumbers() {
			if got, errno := quant.Format(x, unit); got != "" || errno != api.ERANGE {
				t.Errorf("P6.3: Format(%v, %d): %q, %v", x, unit, got, errno)
			}
		}
	}
}

func checkParse(t *testing.T, text string, x float32, unit uint8, errno api.Errno) {
	t.Helper()
	if gotX, gotUnit, gotErrno := quant.Parse(text); !alike(gotX, x) || gotUnit != unit || gotErrno != errno {
		t.Errorf("P6.4: Parse(%q): %v, %d, %v, want %v, %d, %v", text, gotX, gotUnit, gotErrno, x, unit, errno)
	}
}

func TestParseExamples(t *testing.T) {
	for _, c := range []struct {
		text string
		x    float32
		unit uint8
	}{
		{"36.60 C", 36.6, celsius}, {"007 kg", 7, kg}, {"-0 m", 0, m}, {"-0.000 1", 0, one}, {"0 %", 0, percent}, {"-1.5 /s", -1.5, perSec}, {"1 1", 1, one},
		{"010 g", 10, g}, {"0001.10 g", 1.1, g}, {"0.10 mmHg", 0.1, mmHg},
	} {
		checkParse(t, c.text, c.x, c.unit, api.OK)
	}
	for _, text := range []string{"1. g", "1e3 g", "1 t"} {
		checkParse(t, text, 0, 0, api.EFORM)
	}
}

func TestParseOfEachName(t *testing.T) {
	for unit := range 256 {
		name := quant.Name(uint8(unit))
		if name == "" {
			checkParse(t, "2.5 "+name, 0, 0, api.EFORM)
			continue
		}
		checkParse(t, "-2.5 "+name, -2.5, uint8(unit), api.OK)
	}
	for _, name := range []string{"G", "Mg", "MG", "l", "ML", "ml", "M", "c", "f", "k", "KPA", "mmhg", "mmol", "mmol/l", "mg/dl", "mg/", "min", "s", "/m", "0", "2", "11", "%%", "gg", "g g", "lbs", "°C", "g\x00", "\x00", "µg"} {
		checkParse(t, "2.5 "+name, 0, 0, api.EFORM)
	}
}

func TestParseOfNoForm(t *testing.T) {
	for _, text := range []string{
		"", " ", "-", ".", "g", " g", "- g", "-", ". g", "-. g", // no digit at all
		".5 g", "-.5 g", "5. g", "-5. g", "1..5 g", "1.5.2 g", "1.5. g", "1.-5 g", // points
		"--1 g", "+1 g", "-+1 g", "+-1 g", "1- g", "1-1 g", "- 1 g", "−1 g", // signs
		"1  g", "1g", "1", "1 ", "1\tg", "1\ng", "1\u00a0g", " 1 g", "1. 5 g", "1 .5 g", "1 5 g", "1\x00g", // blanks
		"1 g ", "1 gx", "1 g\n", "1 g\x00", "1 g 1 g", "1 mg/dL/", "1 C.", // behind the name
		"1e3 g", "1E3 g", "0x1 g", "0b1 g", "0o7 g", "1_000 g", "1,5 g", "1/2 g", "1p3 g", "a g", "1a g", "NaN g", "Inf g", "-Inf g", "inf g", "١ g", "1.٥ g", // other ways to write a number
		"1 t", "1 ", "-1. g", zeros(255) + ".", zeros(256), "\xff", "1 \xff", "\xff g",
	} {
		checkParse(t, text, 0, 0, api.EFORM)
	}
}

// TestParseOfTurnedTexts takes a byte out of a text, puts one in, or puts another in its place.
func TestParseOfTurnedTexts(t *testing.T) {
	for _, text := range []string{"36.60 C", "-0 m", "120 mg/dL", "-17.25 1", "1 g"} {
		for i := range len(text) + 1 {
			for b := range 256 {
				others := []string{text[:i] + string([]byte{byte(b)}) + text[i:]}
				if i < len(text) {
					others = append(others, text[:i]+text[i+1:], text[:i]+string([]byte{byte(b)})+text[i+1:])
				}
				for _, other := range others {
					x, unit, errno := parseWord(other)
					checkParse(t, other, x, unit, errno)
				}
			}
		}
	}
}

// TestParseOfLongTexts: 256 bytes are taken, one more is refused ahead of all else.
func TestParseOfLongTexts(t *testing.T) {
	for _, c := range []struct {
		text  string
		x     float32
		unit  uint8
		errno api.Errno
	}{
		{zeros(253) + "1 g", 1, g, api.OK},
		{"-" + zeros(247) + "1 mmol/L", -1, mmol, api.OK},
		{"0." + zeros(251) + "1 g", 0, g, api.OK},
		{"1." + zeros(252) + " g", 1, g, api.OK},
		{strings.Repeat("9", 254) + " g", 0, 0, api.ERANGE},
		{strings.Repeat("x", 256), 0, 0, api.EFORM},
		{zeros(254) + "1 g", 0, 0, api.ELIMIT},
		{"-" + zeros(248) + "1 mmol/L", 0, 0, api.ELIMIT},
		{"0." + zeros(252) + "1 g", 0, 0, api.ELIMIT},
		{strings.Repeat("9", 255) + " g", 0, 0, api.ELIMIT},
		{strings.Repeat("x", 257), 0, 0, api.ELIMIT},
		{strings.Repeat(" ", 1<<20), 0, 0, api.ELIMIT},
	} {
		if c.errno != api.ELIMIT && len(c.text) != 256 || c.errno == api.ELIMIT && len(c.text) < 257 {
			t.Fatalf("a text of %d bytes", len(c.text))
		}
		checkParse(t, c.text, c.x, c.unit, c.errno)
	}
}

// TestParseRounds takes digits that lie halfway between two numbers, and one digit beyond.
func TestParseRounds(t *testing.T) {
	r := rand.New(rand.NewSource(14))
	for _, x := range append(edges(), chance(r, 300)...) {
		x = float32(math.Abs(float64(x)))
		next := math.Nextafter32(x, infinity(1))
		if !isNumberWord(next) {
			continue
		}
		half := add(exactWord(x), exactWord(next))
		half.Quo(half, whole(2))
		text := strings.TrimRight(half.FloatString(200), "0") // all of its digits
		even := x
		if math.Float32bits(x)%2 == 1 {
			even = next
		}
		if strings.HasSuffix(text, ".") {
			text += "0"
		}
		if len(text) > 250 {
			continue
		}
		beyond := text + "1"
		checkParse(t, text+" g", even, g, api.OK)
		checkParse(t, beyond+" g", next, g, api.OK)
		minus, _ := quant.Canon(-even)
		checkParse(t, "-"+text+" g", minus, g, api.OK)
		checkParse(t, "-"+beyond+" g", -next, g, api.OK)
		below := sub(half, tenToWord(-200)).FloatString(200)
		if len(below) <= 250 {
			down, _ := quant.Canon(-x)
			checkParse(t, below+" g", x, g, api.OK)
			checkParse(t, "-"+below+" g", down, g, api.OK)
		}
	}
}

// TestParseAtTheGreatest: 2^128 - 2^103 has no number, what is just below it has.
func TestParseAtTheGreatest(t *testing.T) {
	const edge, below = "340282356779733661637539395458142568448", "340282356779733661637539395458142568447"
	checkParse(t, edge+" g", 0, 0, api.ERANGE)
	checkParse(t, "-"+edge+" g", 0, 0, api.ERANGE)
	checkParse(t, edge+".0 g", 0, 0, api.ERANGE)
	checkParse(t, below+" g", greatest, g, api.OK)
	checkParse(t, "-"+below+" g", -greatest, g, api.OK)
	checkParse(t, below+"."+strings.Repeat("9", 200)+" g", greatest, g, api.OK)
	checkParse(t, strings.Repeat("9", 254)+" g", 0, 0, api.ERANGE)
	checkParse(t, "-"+strings.Repeat("9", 253)+" g", 0, 0, api.ERANGE)
	checkParse(t, strings.Repeat("9", 254)+" t", 0, 0, api.EFORM) // the form is asked ahead of the number
	checkParse(t, edge+". g", 0, 0, api.EFORM)
}

// TestParseOfAlmostNothing: what is rounded to 0 is 0, never -0.
func TestParseOfAlmostNothing(t *testing.T) {
	for _, minus := range []string{"", "-"} {
		checkParse(t, minus+"0."+zeros(200)+"1 g", 0, g, api.OK)
		checkParse(t, minus+"0."+zeros(45)+"7 g", 0, g, api.OK) // 2^-150 is 7.006e-46
	}
	checkParse(t, "0."+zeros(45)+"71 g", least, g, api.OK)
	checkParse(t, "-0."+zeros(45)+"71 g", -least, g, api.OK)
}
