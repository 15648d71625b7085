package shell_test

import (
	"fmt"
	"strings"
	"testing"

	"almoner/api"
	"almoner/shell"
)

// exactly asks for what a text says, byte by byte.
func exactly(t *testing.T, promise, text, want string) {
	t.Helper()
	if said := run(t, text); said != want {
		t.Errorf("%s: %s says %s, want %s", promise, short(text), short(said), short(want))
	}
}

// tooMuch asks that a text is refused with ELIMIT, and says nothing.
func tooMuch(t *testing.T, name, text string) {
	t.Helper()
	if said, e := shell.Run(text); e != api.ELIMIT || said != "" {
		t.Errorf("P21.1: %s: %d, %s", name, int(e), short(said))
	}
}

func TestCutAtEachByte10(t *testing.T) {
	for _, x := range []struct{ text, want string }{
		{"", ""}, {"\n", ""}, {"\n\n", ""}, {"#", ""}, {"#\n", ""}, {"\n#", ""},
		{"bag", "error 15\n"}, {"bag\n", "error 15\n"}, {"\nbag", "error 15\n"}, {"bag\n\n", "error 15\n"},
		{"bag\nbag", "error 15\nerror 15\n"}, {"bag\nbag\n", "error 15\nerror 15\n"}, {"bag\n\nbag", "error 15\nerror 15\n"},
		{"x", "error 3\n"}, {"staff 1 1 7", "ok\n"}, {"staff 1 1 7\nx", "ok\nerror 3\n"},
		{"bag\r\nbag", "error 3\nerror 15\n"}, {"bag\rbag", "error 3\n"}, {"bag\vbag\n", "error 3\n"}, {"bag\u2028bag\u0085bag", "error 3\n"}, {"bag\x00", "error 3\n"},
	} {
		exactly(t, "P21.1", x.text, x.want)
	}
}

// TestManyBytes: at MaxInput bytes all is well, one more is refused.
func TestManyBytes(t *testing.T) {
	at := "staff 1 1 7\n#" + strings.Repeat("x", api.MaxInput-13)
	exactly(t, "P21.1: MaxInput bytes", at, "ok\n")
	exactly(t, "P21.1: MaxInput bytes, one of them a 10", at[:api.MaxInput-1]+"\n", "ok\n")
	exactly(t, "P21.1: MaxInput bytes of one line", strings.Repeat("x", api.MaxInput), "error 3\n")
	exactly(t, "P21.1: MaxInput bytes of a number", "retry "+strings.Repeat("1", api.MaxInput-6), "error 3\n")
	exactly(t, "P21.1: MaxInput bytes of blanks", strings.Repeat(" ", api.MaxInput), "error 3\n")
	exactly(t, "P21.1: MaxInput bytes of a seed", "world 1 1 "+strings.Repeat("0f", (api.MaxInput-23)/2)+" 8192 8192 1", "error 1\n")
	exactly(t, "P21.1: MaxInput bytes of fields", "create 0 0 0 0"+strings.Repeat(" a", (api.MaxInput-16)/2)+"=x", "error 3\n")
	tooMuch(t, "a byte more", at+"x")
	tooMuch(t, "a byte 10 more", at+"\n")
	tooMuch(t, "very many bytes", strings.Repeat("#", 1<<24))
	tooMuch(t, "very many bytes and lines", strings.Repeat("\n", 1<<24))
}

// TestManyLines: at MaxLines lines all is well, one more is refused, be they empty, or remarks.
func TestManyLines(t *testing.T) {
	for _, line := range []string{"", "#", "# staff", "staff 1 1 7", "x", " "} {
		many := strings.Repeat(line+"\n", api.MaxLines-1)
		one := strings.TrimSuffix(run(t, line), "\n")
		want := strings.Repeat(one+"\n", api.MaxLines-1)
		if one == "" {
			want = ""
		}
		exactly(t, "P21.1: MaxLines lines", many+"staff 2 1 7", want+"ok\n")
		exactly(t, "P21.1: MaxLines lines, the last one ended", many+"staff 2 1 7\n", want+"ok\n")
		exactly(t, "P21.1: MaxLines lines, the first one another", "staff 2 1 7\n"+many, "ok\n"+want)
		tooMuch(t, "a line more", many+"staff 2 1 7\nx")
		tooMuch(t, "an empty line more", many+"staff 2 1 7\n\n")
		tooMuch(t, "a remark more", many+"#\n#")
		tooMuch(t, "a byte more behind MaxLines lines", many+"\n ")
	}
	tooMuch(t, "very many lines", strings.Repeat("\n", api.MaxInput))
	tooMuch(t, "two lines more", strings.Repeat("\n", api.MaxLines+2))
}

// TestSaysNothing: an empty line, and one that begins with a #, whatever stands behind that; no other one.
func TestSaysNothing(t *testing.T) {
	for _, line := range []string{"", "#", "##", "# ", "#bag", "#staff 1 1 7", "#  staff\t", "#\x00\xff", "#" + strings.Repeat("x", 5000)} {
		exactly(t, "P21.1", line, "")
		exactly(t, "P21.1", line+"\n", "")
		says(t, "P21.1", line+"|create 0 1 7 6 .|"+line+"|"+line+"|run 8|"+line, "ok 1 2|0 1 0 1 1|")
	}
	for _, line := range []string{" ", " #", "\t#", "bag #", "bag#", "\x00", "staff 1 1 7 # a clerk", "\ufeff#"} {
		exactly(t, "P21.1, P21.4", line, "error 3\n")
	}
}

// TestBlanks: one between two words, and none else.
func TestBlanks(t *testing.T) {
	for _, line := range []string{"bag", "staff 7 1 7", "retry 0", "create 0 1 7 6 .", "create 0 1 7 6 a=b c=d", "break 0 4 1", "break 0 4 1 heart", "world 4 1 01 8192 65536 1"} {
		if said := strings.TrimPrefix(run(t, lines(beginning)+line), strings.Repeat("ok\n", 7)); strings.Contains(said, "error 3") {
			t.Fatalf("%q says %q", line, said)
		}
		for _, odd := range oddBlanks(line) {
			refused(t, "P21.1, P21.4: blanks", "", odd, api.EFORM)
		}
	}
	for _, odd := range []string{" series 1 temp F", "series  1 temp F", "series 1  temp F", "series 1 temp  F", "series 1 temp F ", "series 1 temp ", "series 1 temp  "} {
		refused(t, "P21.1, P21.4: blanks", "", odd, api.EFORM)
	}
}

// oddBlanks tells a line with blanks where none may be, and with other bytes in the place of one.
func oddBlanks(line string) []string {
	odd := []string{" " + line, line + " ", "  " + line, line + "  ", "\t" + line, line + "\t", line + "\r"}
	for i := range len(line) {
		if line[i] != ' ' {
			continue
		}
		for _, between := range []string{"  ", "   ", "\t", "", "\t ", " \t", "\x00", "\u00a0", ","} {
			odd = append(odd, line[:i]+between+line[i+1:])
		}
	}
	return odd
}

// TestEachLineEnds: each line that is said is ended by a byte 10, and no line is said beside.
func TestEachLineEnds(t *testing.T) {
	text := lines(beginning + made + "bag|log 0|log 1|log 2|got 0|sign|verifier|check 1|include 0 1|access|trail 0|trail 1|series 1 t C|series 1 t x|replay|public|x|tick 9")
	said := run(t, text)
	if !strings.HasSuffix(said, "error 3\nerror 1\n") {
		t.Errorf("P21.1: %q", said)
	}
	public := fmt.Sprintf("%x", newPlain(4, 1, 1).w.Public())
	want := "ok|ok|ok|ok|ok|ok|ok|" + madeSays + "0 0 1 1 1 0 0|0 0 1 1 1 0 0|0 0 1 1 1 0 0|0 1 0 1 1|1 08b58375|ok|ok|ok|1 1 0 1 0 0||0|error 13|-1|" + public + "|error 3|error 1|"
	if strokes(said) != want {
		t.Errorf("P21.1, P21.5:\n says %s\n want %s", strokes(said), want)
	}
}
