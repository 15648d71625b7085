package shell_test

import (
	"math"
	"math/rand"
	"strings"
	"testing"

	"almoner/api"
	"almoner/quant"
	"almoner/shell"
)

func text(name, text string) api.Field {
	return api.Field{Name: name, Kind: api.FieldText, Text: text}
}

func quantity(name string, value float32, unit uint8) api.Field {
	return api.Field{Name: name, Kind: api.FieldQuantity, Value: value, Unit: unit}
}

// TestAnswersLines: five numbers, then the fields, then the versions.
func TestAnswersLines(t *testing.T) {
	of := api.Id{Client: 3, Number: 20}
	for _, x := range []struct {
		a    api.Answer
		want string
	}{
		{api.Answer{}, "0 0 0 0 0"},
		{api.Answer{Id: of, Code: 10}, "3 20 10 0 0"},
		{api.Answer{Id: of, Record: 7, Version: 9}, "3 20 0 7 9"},
		{api.Answer{Id: api.Id{Client: math.MaxUint32, Number: math.MaxUint32 - 1}, Code: 255, Record: math.MaxUint32 - 2, Version: math.MaxUint32 - 3}, "4294967295 4294967294 255 4294967293 4294967292"},
		{api.Answer{Id: of, Record: 1, Version: 2, Fields: []api.Field{text("a", "b")}}, "3 20 0 1 2 a=b"},
		{api.Answer{Id: of, Record: 1, Version: 2, Fields: []api.Field{quantity("t", 36.6, 11)}}, "3 20 0 1 2 t:36.6_C"},
		{api.Answer{Id: of, Record: 1, Version: 2, Fields: []api.Field{text("._", "_."), quantity("Z", -0.5, 16), quantity("q", 0, 21), text("z", "0")}}, "3 20 0 1 2 ._=_. Z:-0.5_mmol/L q:0_1 z=0"},
		{api.Answer{Id: of, Record: 1, Version: 3, History: []api.Summary{{Author: 1, Event: 2, Fields: 3}, {Author: math.MaxUint32, Event: 4095, Fields: 32, Redacted: true}, {}}}, "3 20 0 1 3 1/2/3 4294967295/4095/32* 0/0/0"},
		{api.Answer{Id: of, Fields: []api.Field{text("a", "b")}, History: []api.Summary{{Redacted: true}}}, "3 20 0 0 0 a=b 0/0/0*"},
	} {
		if line := shell.AnswerLine(x.a); line != x.want {
			t.Errorf("P21.5: %+v says %q, want %q", x.a, line, x.want)
		}
	}
}

// TestWhatTEXTCantTell is told in HEX: a text behind =#, a name with # ahead.
func TestWhatTEXTCantTell(t *testing.T) {
	for _, x := range []struct{ in, want string }{
		{"a", "a"}, {"Ada", "Ada"}, {"._09azAZ", "._09azAZ"}, {strings.Repeat("x", 64), strings.Repeat("x", 64)}, {".", "."},
		{"", "#-"}, {" ", "#20"}, {"a b", "#612062"}, {"-", "#2d"}, {"#", "#23"}, {"#41", "#233431"}, {"=", "#3d"}, {":", "#3a"}, {"!", "#21"}, {"a!", "#6121"}, {"é", "#c3a9"}, {"\xff\x00", "#ff00"}, {"\n", "#0a"}, {"a\nb", "#610a62"}, {"\x7f", "#7f"},
		{strings.Repeat("x", 65), "#" + strings.Repeat("78", 65)},
	} {
		for _, y := range []struct {
			f    api.Field
			want string
		}{{text("n", x.in), "n=" + x.want}, {text(x.in, "t"), x.want + "=t"}, {text(x.in, x.in), x.want + "=" + x.want}, {quantity(x.in, 1.5, 20), x.want + ":1.5_%"}} {
			if line := shell.AnswerLine(api.Answer{Fields: []api.Field{y.f}}); line != "0 0 0 0 0 "+y.want {
				t.Errorf("P21.5: %+v says %q, want %q", y.f, line, y.want)
			}
		}
	}
	for b := range 256 {
		one := string([]byte{byte(b)})
		for _, in := range []string{one, "a" + one, one + "Z", strings.Repeat("0", 63) + one} {
			a := api.Answer{Fields: []api.Field{text(in, in)}}
			if line := shell.AnswerLine(a); line != answerWord(a) || strings.Contains(line, "\n") || strings.Count(line, " ") != 5 {
				t.Errorf("P21.5: %q says %q, want %q", in, line, answerWord(a))
			}
		}
	}
}

// TestAnyAnswersLines: drawn answers, as the words tell them.
func TestAnyAnswersLines(t *testing.T) {
	r := rand.New(rand.NewSource(21))
	name := func() string {
		b := make([]byte, r.Intn(5))
		for i := range b {
			b[i] = oneOf(r, byte('a'), 'Z', '.', '_', '0', ' ', byte(r.Intn(256)))
		}
		return string(b)
	}
	for range 5000 {
		a := api.Answer{Id: api.Id{Client: r.Uint32(), Number: r.Uint32()}, Code: uint8(r.Intn(256)), Record: r.Uint32(), Version: r.Uint32()}
		for range r.Intn(4) {
			a.Fields = append(a.Fields, text(name(), name()))
			if x, e := quant.Canon(math.Float32frombits(r.Uint32())); e == api.OK {
				a.Fields = append(a.Fields, quantity(name(), x, uint8(1+r.Intn(21))))
			}
		}
		for range r.Intn(4) {
			a.History = append(a.History, api.Summary{Author: r.Uint32(), Event: r.Uint32(), Fields: r.Uint32(), Redacted: r.Intn(2) == 0})
		}
		if line := shell.AnswerLine(a); line != answerWord(a) {
			t.Fatalf("P21.5: %+v says %q, want %q", a, line, answerWord(a))
		}
	}
}

// TestAnswersOfTexts: all that TEXT can tell comes back as it was.
func TestAnswersOfTexts(t *testing.T) {
	long := strings.Repeat("Ab._0", 13)[:64]
	says(t, "P21.5: an answer's line", "create 0 2 7 6 "+long+"="+long+" q:-1.50_mmHg|run 8|amend 0 2 1 1 x=1|run 8|redact 0 6 1 1|run 8|history 0 6 1|read 0 6 1 0|run 8|got 0",
		"ok 1 2|0 1 0 1 1|ok 33 34|0 2 0 1 2|ok 53 54|0 3 0 1 1|ok 73 74|ok 75 76 77 78|0 4 0 1 2 2/0/0* 2/1/3|0 5 0 1 2 "+long+"="+long+" q:-1.5_mmHg x=1|0 1 0 1 1|0 2 0 1 2|0 3 0 1 1|0 4 0 1 2 2/0/0* 2/1/3|0 5 0 1 2 "+long+"="+long+" q:-1.5_mmHg x=1|")
}
