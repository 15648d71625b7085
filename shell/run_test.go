package shell_test

import (
	"fmt"
	"strings"
	"testing"

	"almoner/api"
)

// TestRunHowOften: from 0 to 1000 rounds, and no more.
func TestRunHowOften(t *testing.T) {
	says(t, "P21.5: run 0", "create 0 1 7 6 .|run 0|bag", "ok 1 2|1 10 0 1|2 10 2 2|")
	says(t, "P21.5: run 1", "create 0 1 7 6 .|run 1|bag|log 0", "ok 1 2|7 1 0 6|8 2 1 6|0 0 1 1 1 0 0|")
	says(t, "P21.5: run 1000", "create 0 1 7 6 .|run 1000|read 0 1 1 0", "ok 1 2|0 1 0 1 1|ok 33 34|")
	refused(t, "P21.5: run 1001", "create 0 1 7 6 .|", "run 1001", api.ELIMIT)
	refused(t, "P21.5: run 4294967295", "", "run 4294967295", api.ELIMIT)
	// A node that is off lets the rounds be counted by the messages that a client has sent.
	for _, rounds := range []int{1, 2, 10, 999, 1000} {
		says(t, "P21.5: run", fmt.Sprintf("crash 0 0|create 0 1 7 6 .|run %d|retry 0", rounds), "ok|ok 1 2|"+retried(rounds)+"|")
	}
}

// retried tells what the retry says behind so many rounds, by rounds of their own.
func retried(rounds int) string {
	p := newPlain(4, 1, 1)
	p.line("crash 0 0")
	p.line("create 0 1 7 6 .")
	for range rounds {
		p.line("run 1")
	}
	p.said.Reset()
	p.line("retry 0")
	return strings.TrimSuffix(p.said.String(), "\n")
}

// TestRunIsRounds: as many rounds at once are as many lines of one.
func TestRunIsRounds(t *testing.T) {
	for _, text := range []string{"create 0 1 7 6 .|", "create 0 1 7 6 .|create 1 2 7 6 a=b|create 0 3 7 6 .|", "crash 1 0|create 0 1 7 6 .|", "arm 1 2 3|create 0 1 7 6 .|read 1 1 1 0|", "fill 1 1|create 0 1 7 6 .|", "arm 2 1 9|create 0 1 7 6 .|", ""} {
		for rounds := range 15 {
			ahead := hired + "world 4 1 01 8192 65536 2|" + text
			at, one := held(t, lines(ahead+fmt.Sprintf("run %d|", rounds)+everything)), run(t, lines(ahead+strings.Repeat("run 1|", rounds)+everything))
			if at != one {
				t.Errorf("P21.5: behind %q, run %d says %q, as rounds %q", text, rounds, at, one)
			}
		}
	}
}

// TestOrderOfARound: the nodes' ticks from 0 on, the clients' retries from 0 on, and then what is in the bag, by rising numbers: that alone.
func TestOrderOfARound(t *testing.T) {
	three := hired + "world 4 1 01 8192 65536 3|"
	for _, x := range []struct{ text, want string }{
		// Both What are sent ahead of the retries, that of the head first; their answers wait for the next round.
		{"run 1|bag", "3 1 0 6|4 2 1 6|"},
		{"tick 1|run 1|bag", "ok 1|4 2 1 6|5 1 0 6|6 2 1 6|"},
		// All requests are lost: what the log has is what was retried, in the order of the clients.
		{"create 2 1 7 6 .|create 0 2 7 6 .|create 1 3 7 6 .|drop 1|drop 2|drop 3|drop 4|drop 5|drop 6|run 1|bag|log 0", "ok 1 2|ok 3 4|ok 5 6|ok|ok|ok|ok|ok|ok|15 1 0 6|16 2 1 6|0 0 1 2 1 0 0|1 1 1 3 1 0 0|2 2 1 1 1 0 0|"},
		// What was there ahead is delivered ahead.
		{"create 2 1 7 6 .|create 0 2 7 6 .|drop 3|run 1|log 0", "ok 1 2|ok 3 4|ok|0 2 1 1 1 0 0|1 0 1 2 1 0 0|"},
		{"create 2 1 7 6 .|create 0 2 7 6 .|double 1|drop 1|run 1|log 0", "ok 1 2|ok 3 4|ok 5|ok|0 0 1 2 1 0 0|1 2 1 1 1 0 0|"},
		// The tail asks nobody; a node that is off is not ticked, and what comes to it is lost.
		{"crash 0 0|run 1|bag|crash 1 0|run 1|bag|crash 2 0|run 2|bag|restart 0 0|run 1|bag", "ok|2 2 1 6|ok|ok|ok|"},
		{"crash 1 0|run 1|bag|create 0 1 7 6 .|run 1|bag|log 0|log 1", "ok|ok 2 3|0 0 1 1 1 0 0|"},
	} {
		saysAlone(t, "P21.5: run", three+x.text, strings.Repeat("ok|", 7)+x.want)
	}
}

// TestRunSaysAnswers: one line for each answer that a client has got, in the order in which they came, and nothing else.
func TestRunSaysAnswers(t *testing.T) {
	text := hired + "world 4 1 01 8192 65536 3|create 2 1 7 6 a=b|create 1 2 7 6 .|create 0 4 8 6 q:1_%|read 1 9 1 0|read 2 6 1 0|run 30|got 0|got 1|got 2|run 30|got 2"
	want := "ok 1 2|ok 3 4|ok 5 6|ok 7 8 9 10|ok 11 12 13 14|2 1 0 1 1|1 1 0 2 1|0 1 0 3 1|1 2 1 0 0|2 2 0 1 1 a=b|0 1 0 3 1|1 1 0 2 1|1 2 1 0 0|2 1 0 1 1|2 2 0 1 1 a=b|2 1 0 1 1|2 2 0 1 1 a=b|"
	said := strings.TrimPrefix(strokes(run(t, lines(text))), strings.Repeat("ok|", 7))
	if sortedLines(said) != sortedLines(want) || !strings.HasPrefix(said, "ok 1 2|ok 3 4|ok 5 6|ok 7 8 9 10|ok 11 12 13 14|") || !strings.HasSuffix(said, want[strings.Index(want, "0 1 0 3 1|1 1 0 2 1|"):]) {
		t.Errorf("P21.5: run:\n says %s\n want %s", said, want)
	}
	held(t, lines(text))
	says(t, "P21.5: run: a request that has no room", "fill 0 1|create 0 1 7 6 .|run 20|got 0|fill 0 0|run 20|got 0", "ok|ok 1 2|ok|0 1 0 1 1|0 1 0 1 1|")
}

func sortedLines(text string) string {
	l := strings.Split(text, "|")
	for i := range l {
		for k := range i {
			if l[i] < l[k] {
				l[i], l[k] = l[k], l[i]
			}
		}
	}
	return strings.Join(l, "|")
}
