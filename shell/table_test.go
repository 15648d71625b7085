package shell_test

import (
	"fmt"
	"slices"
	"strings"
	"testing"

	"almoner/api"
)

// lastSaid tells the line that was said last, "" for a text that has said nothing.
func lastSaid(t *testing.T, text string) string {
	t.Helper()
	l := strings.Split(strings.TrimSuffix(run(t, text), "\n"), "\n")
	return l[len(l)-1]
}

// isForm tells whether a line has the form of a row, by the words.
func isForm(line string) bool {
	for i, form := range forms {
		if words := form.FindStringSubmatch(line); words != nil && areWithin(table[i].form, words[1:]) {
			return true
		}
	}
	return false
}

// TestEachRow: each row is there; it needs what is said; and none of its words may be missing, be of another kind, or come beside.
func TestEachRow(t *testing.T) {
	t.Parallel()
	for _, r := range table {
		words := plainWords(r.form)
		line := strings.Join(words, " ")
		alone := "error 15"
		switch words[0] {
		case "staff":
			alone = "ok"
		case "world": // of a segment of one byte
			alone = "error 1"
		}
		if said := lastSaid(t, line); said != alone {
			t.Errorf("P21.4: %q alone says %q, want %q", line, said, alone)
		}
		if said := lastSaid(t, lines(beginning)+line); (said == "error 15") != (r.needs == 2 || slices.Contains([]string{"deliver", "double", "drop"}, words[0])) || said == "error 3" {
			t.Errorf("P21.4: %q behind a world says %q", line, said)
		}
		if said := lastSaid(t, lines(beginning+"verifier|#|")+line); said == "error 3" {
			t.Errorf("P21.5: %q behind a world and a verifier says %q", line, said)
		}
		many := 0
		for _, odd := range oddWords(words) {
			if isForm(odd) { // a name with a digit in the place of a text, and the like
				continue
			}
			many++
			for _, ahead := range []string{"", lines(beginning), lines(beginning + "verifier|")} {
				if said := lastSaid(t, ahead+odd); said != "error 3" {
					t.Errorf("P21.4: %q says %q, want error 3", odd, said)
				}
			}
		}
		if many < 30 {
			t.Errorf("only %d odd lines like %q have no form", many, line)
		}
	}
}

// oddWords tells lines like that of some words, with a word too few, one too many, one of another kind, and of another name.
func oddWords(words []string) []string {
	var odd []string
	add := func(l ...string) { odd = append(odd, strings.Join(l, " ")) }
	for i := range words {
		add(slices.Delete(slices.Clone(words), i, i+1)...)
		for _, word := range []string{"1", "x", ".", "01", "-", "a=b", "staff", "36.6_C"} {
			add(slices.Insert(slices.Clone(words), i, word)...)
			if i > 0 {
				add(slices.Replace(slices.Clone(words), i, i+1, word)...)
			}
		}
	}
	for _, word := range []string{"1", "x", ".", "a=b", "-", "\x00"} {
		add(append(slices.Clone(words), word)...)
		add(append(slices.Clone(words), word, word)...)
	}
	add(slices.Repeat(words, 2)...)
	for _, name := range []string{strings.ToUpper(words[0]), strings.ToUpper(words[0][:1]) + words[0][1:], words[0] + "s", words[0][1:], words[0][:len(words[0])-1], "x" + words[0], words[0] + "\x00", words[0] + ":", "-" + words[0]} {
		add(append([]string{name}, words[1:]...)...)
	}
	return slices.DeleteFunc(odd, func(line string) bool { return line == "" })
}

// TestNoCommands: words that the table does not have.
func TestNoCommands(t *testing.T) {
	for _, line := range []string{"call 0 1 7 6 .", "extend 0 1", "head", "help", "exit", "quit", "report", "nodes", "up 0", "waiting 0", "public 0", "sign 0", "evidence", "judge", "bundle 1", "N", "0", "1 2 3", "ok", "error 3", "error", ".", "-", "!", "create", "staff", "world", "seal", "break", "break 0", "break 0 4", "series 1 t", "series 1", "\x00", "\xff\xfe", "名"} {
		for _, ahead := range []string{"", beginning, beginning + "verifier|"} {
			if said := lastSaid(t, lines(ahead)+line); said != "error 3" {
				t.Errorf("P21.4: %q says %q, want error 3", line, said)
			}
		}
	}
}

// TestOrderOfErrors: a line without a form says so, whatever it needs and whatever its call would answer; one that lacks a world or a verifier says that ahead of its call's error.
func TestOrderOfErrors(t *testing.T) {
	for _, x := range []struct{ ahead, line, want string }{
		{"", "tick 9 9", "error 3"}, {"", "tick 9", "error 15"}, {beginning, "tick 9", "error 1"}, {beginning, "tick 9 9", "error 3"},
		{"", "run 1001", "error 15"}, {"", "run 01001", "error 3"}, {beginning, "run 1001", "error 2"},
		{"", "check 9", "error 15"}, {beginning, "check 9", "error 15"}, {beginning, "check", "error 3"}, {beginning, "check x", "error 3"}, {beginning + "verifier|", "check 9", "error 1"}, {beginning + "verifier|", "check 09", "error 3"},
		{"", "include 9 9", "error 15"}, {beginning, "include 9 9", "error 15"}, {beginning, "include 9", "error 3"}, {beginning + "verifier|", "include 9 9", "error 1"}, {beginning + "verifier|", "include 9", "error 3"},
		{"", "series 1 t x", "error 15"}, {beginning, "series 1 t x", "error 13"}, {beginning, "series 1 t- x", "error 3"}, {beginning, "series 1 t", "error 3"},
		{"", "create 9 1 7 6 a!", "error 15"}, {"", "create 9 1 7 6 a", "error 3"}, {beginning, "create 9 1 7 6 a!", "error 1"}, {beginning, "create 9 1 7 6 a", "error 3"},
		{"", "world 99 1 01 8192 65536", "error 3"}, {"", "world 99 1 01 8192 65536 1", "error 1"}, {"", "world 4 1 0 8192 65536 99", "error 3"},
		{hired + "staff 0 0 0|", "world 4 1 01 8192 65536 1", "error 1"}, {hired + "staff 0 0 0|", "bag", "error 15"}, {hired, "bag 1", "error 3"},
		{beginning + "crash 2 0|", "sign", "error 6"}, {beginning + "crash 2 0|", "check 0", "error 15"}, {beginning + "verifier|crash 2 0|", "check 0", "error 6"}, {beginning + "verifier|crash 2 0|", "check 99", "error 6"}, {beginning + "verifier|crash 2 0|", "include 0 1", "error 6"}, {beginning + "verifier|crash 2 0|", "include 0", "error 3"},
	} {
		if said := lastSaid(t, lines(x.ahead)+x.line); said != x.want {
			t.Errorf("P21.4: behind %q, %q says %q, want %q", x.ahead, x.line, said, x.want)
		}
	}
}

// TestCallsErrors: each row with each error that its call answers; and that the refused line has changed nothing.
func TestCallsErrors(t *testing.T) {
	for _, x := range []struct {
		ahead, line string
		e           api.Errno
	}{
		{"", "create 1 1 7 6 .", api.EARG}, {"", "create 0 1 7 6 a!", api.EARG}, {"", "amend 1 1 1 1 .", api.EARG}, {"", "amend 0 1 1 1 " + fieldsUpTo(33), api.EARG},
		{"", "read 1 1 1 0", api.EARG}, {"", "redact 1 1 1 1", api.EARG}, {"", "history 1 5 1", api.EARG}, {"", "seal 1 6 1 1", api.EARG}, {"", "seal 0 6 1 2", api.EARG}, {"", "seal 0 6 1 4294967295", api.EARG}, {"", "break 1 4 1", api.EARG}, {"", "break 1 4 1 heart", api.EARG}, {"", "retry 1", api.EARG},
		{"", "deliver 0", api.ENONE}, {"", "deliver 1", api.ENONE}, {"create 0 1 7 6 .|deliver 1|", "deliver 1", api.ENONE}, {"create 0 1 7 6 .|drop 1|", "deliver 1", api.ENONE}, {"create 0 1 7 6 .|", "double 3", api.ENONE}, {"create 0 1 7 6 .|", "drop 3", api.ENONE}, {"create 0 1 7 6 .|drop 2|", "drop 2", api.ENONE}, {"create 0 1 7 6 .|deliver 2|", "double 2", api.ENONE},
		{"", "tick 3", api.EARG}, {"crash 1 0|", "tick 1", api.EOFF},
		{"", "arm 3 1 1", api.EARG}, {"", "arm 0 0 1", api.EARG}, {"crash 0 0|", "arm 0 1 1", api.EOFF},
		{"", "crash 3 0", api.EARG}, {"crash 2 0|", "crash 2 0", api.EOFF}, {"", "restart 3 0", api.EARG}, {"", "restart 0 0", api.EARG}, {"crash 0 0|restart 0 0|", "restart 0 0", api.EARG}, {"", "fill 3 0", api.EARG},
		{"", "run 1001", api.ELIMIT}, {"crash 2 0|", "sign", api.EOFF}, {made, "check 1", api.ENONE}, {made, "include 0 1", api.ENONE},
		{made + "verifier|sign|", "check 2", api.EARG}, {made + "verifier|", "check 1", api.EFORM}, {made + "verifier|", "include 0 1", api.ENONE}, {made + "verifier|sign|check 1|", "include 1 1", api.EARG}, {made + "verifier|sign|check 1|", "include 0 2", api.EARG}, {made + "verifier|sign|check 1|", "include 0 0", api.EARG}, {made + "verifier|sign|check 1|", "check 0", api.EARG},
		{"", "series 1 t x", api.EUNIT}, {"create 0 2 7 6 t:1_g|run 8|", "series 1 t L", api.EUNIT}, {"create 0 2 7 6 t:340000000000000000000000000000000000000_kg|run 8|", "series 1 t g", api.ERANGE},
		{"", "world 0 1 01 8192 65536 1", api.EARG}, {"", "world 4 1 - 8192 65536 1", api.EARG},
	} {
		refused(t, "P21.4, P21.5", x.ahead, x.line, x.e)
	}
}

// TestKeys: a tail that has no key left, and one whose disk is full or goes off as it signs.
func TestKeys(t *testing.T) {
	more := "read 0 1 1 0|run 8|"
	says(t, "P21.5: sign", "sign|"+made+"sign|"+more+"sign|sign|log 2", "0 e3b0c442|"+madeSays+"1 08b58375|ok 33 34|0 2 0 1 1|error 7|error 7|0 0 1 1 1 0 0|1 0 2 1 3 1 0|")
	says(t, "P21.5: sign", made+"fill 2 1|sign|fill 2 0|sign|fill 2 1|sign", madeSays+"ok|error 5|ok|1 08b58375|ok|1 08b58375|")
	says(t, "P21.5: sign", made+"arm 2 1 5|sign|sign|restart 2 0|sign", madeSays+"ok|error 6|error 6|ok|1 08b58375|")
	says(t, "P21.3: a head that was refused is not the last one", made+"verifier|sign|check 1|"+more+"sign|check 2|"+more+"sign|check 2|verifier|check 2", madeSays+"ok|1 08b58375|ok|ok 33 34|0 2 0 1 1|2 130cc143|ok|ok 53 54|0 3 0 1 1|error 7|ok|ok|ok|")
}

// TestSteps: what each line of a step says, step by step.
func TestSteps(t *testing.T) {
	for _, x := range []struct{ text, want string }{
		{"retry 0|create 0 1 7 6 .|retry 0|bag|drop 1|drop 3|bag|deliver 2|deliver 4|bag|retry 0|bag", "ok|ok 1 2|ok 3 4|1 10 0 1|2 10 2 2|3 10 0 1|4 10 2 2|ok|ok|2 10 2 2|4 10 2 2|ok|ok|ok 5 6|5 10 0 1|6 10 2 2|"},
		{"create 0 1 7 6 .|double 2|double 3|double 1|bag|log 2", "ok 1 2|ok 3|ok 4|ok 5|1 10 0 1|2 10 2 2|3 10 2 2|4 10 2 2|5 10 0 1|"},
		{"tick 0|tick 1|tick 2|tick 0|bag|deliver 1|deliver 2|bag", "ok 1|ok 2|ok|ok 3|1 0 1 7|2 1 2 7|3 0 1 7|ok 4|ok 5|3 0 1 7|4 1 0 6|5 2 1 6|"},
		{made + "retry 0|read 0 2 1 0|bag|deliver 33|tick 0|deliver 35|tick 1|deliver 37|deliver 36|deliver 34|bag|retry 0|deliver 40|deliver 41|deliver 42|deliver 38|bag", madeSays + "ok|ok 33 34|33 10 0 1|34 10 2 2|ok|ok 35|ok 36|ok 37|ok 38|ok|ok 39|38 2 1 6|39 2 10 3|ok 40 41|ok|ok 42|ok|0 2 0 1 1|ok|39 2 10 3|"},
		{"create 0 1 7 6 .|deliver 1|crash 0 4294967295|bag|restart 0 4294967295|tick 0|log 0", "ok 1 2|ok|ok|2 10 2 2|ok|ok 3|0 0 1 1 1 0 0|"},
		{"arm 0 2 3|create 0 1 7 6 .|deliver 1|read 0 1 1 0|deliver 5|log 0|tick 0|restart 0 3|log 0|tick 0", "ok|ok 1 2|ok|ok 3 4 5 6|ok|0 0 1 1 1 0 0|error 6|ok|0 0 1 1 1 0 0|ok 7|"},
		{"arm 1 1 3|arm 1 2 3|" + made + "log 1|read 0 1 1 0|run 8|log 1|log 2|tick 1|restart 1 0|run 8|log 2", "ok|ok|" + madeSays + "0 0 1 1 1 0 0|ok 33 34|0 0 1 1 1 0 0|0 0 1 1 1 0 0|error 6|ok|0 2 0 1 1|0 0 1 1 1 0 0|1 0 2 1 3 1 0|"},
		{"fill 0 2|create 0 1 7 6 .|deliver 1|deliver 3|got 0|fill 0 0|retry 0|deliver 4|log 0", "ok|ok 1 2|ok 3|ok|ok|ok 4 5|ok|0 0 1 1 1 0 0|"},
		{"crash 0 0|create 0 1 7 6 .|deliver 1|log 0|restart 0 0|retry 0|deliver 3|log 0", "ok|ok 1 2|ok|ok|ok 3 4|ok|0 0 1 1 1 0 0|"},
	} {
		says(t, "P21.5: steps", x.text, x.want)
	}
}

// TestCalls: each row of a Call asks for what it says, with its parts in their places.
func TestCalls(t *testing.T) {
	ahead := []string{"staff 1 1 7", "staff 2 2 7", "staff 3 3 7", "staff 4 3 8", "staff 5 4 0", "staff 6 5 0", "world 32 1 01 8192 65536 3", "create 0 2 7 6 t:36_C", "create 0 3 7 6 a=b", "create 0 4 8 6 .", "run 12"}
	for _, x := range []struct{ line, log, got string }{
		{"create 2 4 8 6 x=y", "3 2 1 4 1 0 0", "2 1 0 4 1"}, {"create 2 4 7 6 x=y", "3 2 1 4 1 0 5", "2 1 5 0 0"}, {"create 2 4 8 7 x=y", "3 2 1 4 1 0 1", "2 1 1 0 0"},
		{"amend 1 2 1 1 t:37_C", "3 1 1 2 2 1 0", "1 1 0 1 2"}, {"amend 1 2 1 2 t:37_C", "3 1 1 2 2 1 4", "1 1 4 0 0"}, {"amend 1 2 2 1 t:37_C", "3 1 1 2 2 2 0", "1 1 0 2 2"}, {"amend 1 2 3 1 t!", "3 1 1 2 2 3 5", "1 1 5 0 0"}, {"amend 1 2 1 1 t:37_g", "3 1 1 2 2 1 10", "1 1 10 0 0"},
		{"read 1 2 1 0", "3 1 1 2 3 1 0", "1 1 0 1 1 t:36_C"}, {"read 1 2 1 1", "3 1 1 2 3 1 0", "1 1 0 1 1 t:36_C"}, {"read 1 6 2 0", "3 1 1 6 3 2 0", "1 1 0 2 1 a=b"}, {"read 1 2 1 2", "3 1 1 2 3 1 4", "1 1 4 0 0"},
		{"redact 1 6 2 1", "3 1 1 6 4 2 0", "1 1 0 2 1"}, {"redact 1 2 2 1", "3 1 1 2 4 2 5", "1 1 5 0 0"}, {"redact 1 3 1 2", "3 1 1 3 4 1 4", "1 1 4 0 0"},
		{"history 2 5 2", "3 2 1 5 5 2 0", "2 1 0 2 1 3/1/1"}, {"history 2 5 4", "3 2 1 5 5 4 3", "2 1 3 0 0"}, {"history 2 4 2", "3 2 1 4 5 2 5", "2 1 5 0 0"},
		{"seal 0 6 3 1", "3 0 4 6 6 3 0", "0 4 0 3 0"}, {"seal 0 6 3 0", "3 0 4 6 6 3 0", "0 4 0 3 0"}, {"seal 0 4 3 1", "3 0 4 4 6 3 5", "0 4 5 0 0"},
		{"break 0 3 3 heart", "3 0 4 3 7 3 0", "0 4 0 3 0"}, {"break 0 3 3", "3 0 4 3 7 3 5", "0 4 5 0 0"}, {"break 0 1 3 heart", "3 0 4 1 7 3 5", "0 4 5 0 0"},
	} {
		parts := saidBy(t, ahead, x.line, "run 8", "log 2", "got "+strings.Fields(x.line)[1])
		if len(parts[0]) != 1 || !strings.HasPrefix(parts[0][0], "ok ") || len(parts[1]) != 1 || parts[1][0] != x.got || len(parts[2]) != 4 || parts[2][3] != x.log || parts[3][len(parts[3])-1] != x.got {
			t.Errorf("P21.5: %q says %q, want %q, %q", x.line, parts, x.log, x.got)
		}
	}
	// Sealed and unsealed, granted or not, with and without its reason: what the words tell is done.
	says(t, "P21.5: seal", made+"seal 0 6 1 1|run 8|read 0 2 1 0|run 8|seal 0 6 1 0|run 8|read 0 2 1 0|run 8", madeSays+"ok 33 34|0 2 0 1 0|ok 53 54|0 3 6 0 0|ok 73 74|0 4 0 1 0|ok 93 94|0 5 0 1 1|")
	says(t, "P21.5: redact", made+"redact 0 6 1 1|run 8|read 0 6 1 1|run 8|history 0 6 1|run 8|redact 0 6 1 1|run 8", madeSays+"ok 33 34|0 2 0 1 1|ok 53 54|0 3 8 0 0|ok 73 74|0 4 0 1 1 1/0/0*|ok 93 94|0 5 8 0 0|")
}

// TestManyVersions: MaxVersions can be reached by MaxLines lines; one more is refused by its answer.
func TestManyVersions(t *testing.T) {
	var l []string
	for version := 1; version <= api.MaxVersions; version++ {
		l = append(l, fmt.Sprintf("amend 0 2 1 %d t:%d_C", version, version), "run 6")
	}
	text := beginning + made + strings.Join(l, "|") + "|history 0 5 1|run 8|series 1 t C|trail 1"
	said := held(t, lines(text))
	if !strings.Contains(said, fmt.Sprintf("\n0 %d 9 0 0\n", api.MaxVersions+1)) || !strings.Contains(said, "\n0 66 0 1 64 1/0/0 2/1/1 2/2/1 ") || !strings.Contains(said, "\n63 63_C\n0 1 2 3 ") {
		t.Errorf("P21.5: %s", short(said))
	}
}
