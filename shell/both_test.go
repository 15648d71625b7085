package shell_test

import (
	"fmt"
	"math/rand"
	"strings"
	"testing"

	"almoner/api"
	"almoner/shell"
)

// isTold holds what a text says against what the words have said line by line.
func (s *script) isTold(t *testing.T) {
	t.Helper()
	said, e := shell.Run(s.text())
	want := s.p.said.String()
	if e == api.OK && said == want {
		return
	}
	had := ""
	for i, told := range s.told {
		had += told
		if !strings.HasPrefix(said, had) {
			t.Fatalf("P21.5: the line %d, %q, should say %q; all (%d) say %s\nbehind %s", i, s.lines[i], told, int(e), short(said[min(len(had)-len(told), len(said)):]), strokes(s.text()))
		}
	}
	t.Fatalf("P21.5: %s says %d, %q, want %q", short(s.text()), int(e), said, want)
}

// TestDrawnTexts: long texts of all lines, several worlds among them, as the words say them.
func TestDrawnTexts(t *testing.T) {
	t.Parallel()
	for seed := range int64(25) {
		s := newScript(seed)
		s.begin()
		for len(s.lines) < api.MaxLines-20 {
			switch k := s.Intn(1000); {
			case k < 650:
				s.step()
			case k < 940:
				s.ask()
			case k < 960:
				s.odd()
			case k < 980:
				s.add("%s", oneOf(s.Rand, "", "#", "# a remark", "#bag"))
			case k < 984:
				s.add("staff %d %d %d", 1+s.Intn(12), 1+s.Intn(6), s.Intn(9))
			case k < 987:
				s.begin()
			}
		}
		s.isTold(t)
	}
}

// TestDrawnShortTexts: of few lines each, so that much happens at the beginning.
func TestDrawnShortTexts(t *testing.T) {
	t.Parallel()
	for seed := range int64(700) {
		s := newScript(10000 + seed)
		if s.Intn(10) > 0 {
			s.begin()
		}
		for range s.Intn(30) {
			switch k := s.Intn(20); {
			case s.p.w == nil || k == 0:
				s.add("%s", oneOf(s.Rand, "staff 1 1 7", "staff 6 5 0", "world 4 1 01 8192 65536 1", "world 4 1 - 8192 65536 1", "bag", "check 0", "verifier", "", "#", "x", "staff 1 1 07"))
			case k == 1:
				s.odd()
			case k < 12:
				s.step()
			default:
				s.ask()
			}
		}
		s.isTold(t)
	}
}

// TestAllShortTexts: each text of three lines out of these, ahead of some that ask, with a world and without.
func TestAllShortTexts(t *testing.T) {
	t.Parallel()
	l := []string{"staff 1 1 7", "staff 6 5 0", "world 4 0 01 8192 65536 1", "world 0 0 01 8192 65536 1", "create 0 1 7 6 .", "run 8", "sign", "verifier", "check 0", "check 1", "crash 2 0", "restart 2 0", "#", "x"}
	const asked = "\nbag\nlog 2\ngot 0\npublic\ninclude 0 1\ncheck 1\ncreate 0 1 7 6 .\nrun 7\nsign\n"
	for _, ahead := range []string{"", "staff 6 5 0\nstaff 1 1 7\nworld 4 0 01 8192 65536 1\n", "staff 6 5 0\nstaff 1 1 7\nworld 4 0 01 8192 65536 1\ncreate 0 1 7 6 .\nrun 8\nverifier\nsign\n"} {
		for i := range len(l) * len(l) * len(l) {
			held(t, ahead+strings.Join([]string{l[i/len(l)/len(l)], l[i/len(l)%len(l)], l[i%len(l)]}, "\n")+asked)
		}
	}
}

// TestChangedLines: each line with each byte taken away, doubled, or another one in its place.
func TestChangedLines(t *testing.T) {
	for _, r := range table {
		line := strings.Join(plainWords(r.form), " ")
		if r.form == "create N N N N FIELDS" {
			line = "create 0 1 7 6 b=x a:1.5_mmol/L c!"
		}
		var changed []string
		for i := range len(line) {
			changed = append(changed, line[:i]+line[i+1:], line[:i]+line)
			for _, b := range []byte("\x00\t\n\r !#%+-./0129:=AZ_az\x7f\x80\xff") {
				changed = append(changed, line[:i]+string([]byte{b})+line[i+1:], line[:i]+string([]byte{b})+line[i:])
			}
		}
		for len(changed) > 0 { // some hold a byte 10, and are two lines
			many := min(len(changed), 400)
			held(t, lines(beginning)+strings.Join(changed[:many], "\n"))
			changed = changed[many:]
		}
	}
}

// TestAnyBytes: no text panics, and each says what the words do.
func TestAnyBytes(t *testing.T) {
	t.Parallel()
	r := rand.New(rand.NewSource(21))
	pieces := strings.Fields("staff world create amend read redact history seal break retry deliver double drop tick arm crash restart fill run bag log got sign verifier check include access trail series replay public 0 1 2 3 7 6 01 8192 65536 4294967295 4294967296 - . a=b a:1_g a! t C x # = : ! _")
	for range 4000 {
		var b strings.Builder
		if r.Intn(2) == 0 {
			b.WriteString(lines(beginning))
		}
		for range r.Intn(80) {
			switch k := r.Intn(20); {
			case k < 9:
				b.WriteString(oneOf(r, pieces...))
			case k < 17:
				b.WriteByte(' ')
			case k < 19:
				b.WriteByte('\n')
			default:
				b.WriteByte(byte(r.Intn(256)))
			}
		}
		held(t, b.String())
	}
	for range 500 {
		b := make([]byte, r.Intn(3000))
		r.Read(b)
		held(t, string(b))
	}
}

// TestRowsOfAnyWords: names with as many words behind as may be, of all kinds.
func TestRowsOfAnyWords(t *testing.T) {
	r := rand.New(rand.NewSource(22))
	var l []string
	for range 30000 {
		words := strings.Fields(oneOf(r, table...).form)[:1]
		for range r.Intn(7) {
			words = append(words, oneOf(r, "0", "0", "1", "1", "2", "3", "7", "6", "01", "ff", "-", ".", "a=b", "b:1_g", "c!", "t", "C", fmt.Sprint(r.Intn(100)), "4294967295"))
		}
		l = append(l, strings.Join(words, " "))
		if len(l) == 900 {
			held(t, lines(beginning)+strings.Join(l, "\n"))
			held(t, lines(beginning+made+"verifier|sign|check 1|")+strings.Join(l, "\n"))
			l = nil
		}
	}
}

// FuzzRun holds any text against the words.
func FuzzRun(f *testing.F) {
	f.Add(lines(beginning + made + "sign|verifier|check 1|include 0 1"))
	f.Add(lines(beginning + "amend 0 2 1 1 temp:36.6_C a=b c!|run 8|series 1 temp F|access|trail 1"))
	f.Fuzz(func(t *testing.T, text string) {
		if strings.Count(text, "run") < 3 { // more of them may take long
			held(t, text)
		}
	})
}
