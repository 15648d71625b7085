package shell_test

import (
	"fmt"
	"math/rand"
	"slices"
	"strings"
	"testing"

	"almoner/api"
	"almoner/shell"
)

// In these tests lines are parted by strokes, as in the chapter's examples.
const (
	hired     = "staff 1 1 7|staff 2 2 7|staff 3 3 7|staff 4 3 8|staff 5 4 0|staff 6 5 0|"
	beginning = hired + "world 4 1 01 8192 65536 1|"
	made      = "create 0 1 7 6 .|run 8|" // a record, acknowledged
	madeSays  = "ok 1 2|0 1 0 1 1|"
)

// people is the staff of the beginning.
var people = []api.Staff{{Actor: 1, Role: 1, Ward: 7}, {Actor: 2, Role: 2, Ward: 7}, {Actor: 3, Role: 3, Ward: 7}, {Actor: 4, Role: 3, Ward: 8}, {Actor: 5, Role: 4}, {Actor: 6, Role: 5}}

// run does a text that is not refused.
func run(t testing.TB, text string) string {
	t.Helper()
	said, e := shell.Run(text)
	if e != api.OK {
		t.Fatalf("Run of %s: %d", short(text), int(e))
	}
	return said
}

// short tells a text of which not too much is to be seen.
func short(text string) string {
	if len(text) > 4000 {
		return fmt.Sprintf("%.4000q.. (%d bytes)", text, len(text))
	}
	return fmt.Sprintf("%q", text)
}

func strokes(text string) string { return strings.ReplaceAll(text, "\n", "|") }
func lines(text string) string   { return strings.ReplaceAll(text, "|", "\n") }

// saysAlone asks for what a text says.
func saysAlone(t testing.TB, promise, text, want string) {
	t.Helper()
	if said := strokes(run(t, lines(text))); said != want {
		t.Errorf("%s: %s\n says %s\n want %s", promise, short(text), short(said), short(want))
	}
}

// says asks for what a text says behind the beginning.
func says(t testing.TB, promise, text, want string) {
	t.Helper()
	saysAlone(t, promise, beginning+text, strings.Repeat("ok|", 7)+want)
}

// refused asks for the error of a line that stands behind the beginning and some lines, and that it has changed nothing.
func refused(t testing.TB, promise, ahead, line string, e api.Errno) {
	t.Helper()
	said := run(t, lines(beginning+ahead))
	want := strokes(said) + fmt.Sprintf("error %d|", int(e))
	saysAlone(t, promise, beginning+ahead+line, want)
	asked := strokes(strings.TrimPrefix(run(t, lines(beginning+ahead+everything)), said))
	saysAlone(t, "R3: "+promise, beginning+ahead+line+"|"+everything, want+asked)
}

// everything asks for all that a text can be asked for without a change of what is told behind it. (The one that signs is the last.)
const everything = "bag|log 0|log 1|log 2|got 0|got 1|access|trail 0|trail 1|trail 2|series 1 t C|replay|public|check 0|check 1|include 0 1|retry 0|retry 1|tick 0|tick 1|tick 2|sign|check 1|check 2|verifier|check 1|world 4 1 01 8192 65536 2"

// saidBy tells what each of some lines says, behind others that make a world. None of them may make another one.
func saidBy(t testing.TB, ahead []string, l ...string) [][]string {
	t.Helper()
	if len(ahead)+2*len(l)+1 > api.MaxLines {
		t.Fatalf("%d lines are too many", len(l))
	}
	start := strings.Join(ahead, "\n") + "\npublic\n"
	told := strings.Split(strings.TrimSuffix(run(t, start), "\n"), "\n")
	public := told[len(told)-1] // it parts what the lines say: no other line is one word that is no ok
	all := strings.Split(strings.TrimSuffix(run(t, start+strings.Join(l, "\npublic\n")+"\npublic\n"), "\n"), "\n")
	if !slices.Equal(all[:len(told)], told) {
		t.Fatalf("P21.6: %q said %q, and says %q", ahead, told, all[:len(told)])
	}
	var parts [][]string
	var part []string
	for _, line := range all[len(told):] {
		if line == public {
			parts, part = append(parts, part), nil
			continue
		}
		part = append(part, line)
	}
	if len(parts) != len(l) || len(part) != 0 {
		t.Fatalf("%d lines say %d parts", len(l), len(parts))
	}
	return parts
}

func oneOf[T any](r *rand.Rand, l ...T) T { return l[r.Intn(len(l))] }

// numbersOf tells the numbers of a line that says nothing else.
func numbersOf(t testing.TB, line string) []int {
	t.Helper()
	var l []int
	for _, word := range strings.Fields(line) {
		n := 0
		if _, err := fmt.Sscanf(word, "%d", &n); err != nil || fmt.Sprint(n) != word {
			t.Fatalf("%q is no line of numbers", line)
		}
		l = append(l, n)
	}
	return l
}
