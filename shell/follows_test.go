package shell_test

import (
	"math/rand"
	"strings"
	"sync"
	"testing"

	"almoner/api"
	"almoner/shell"
)

// drawnText tells a text of many lines, all kinds of them.
func drawnText(seed int64, many int) *script {
	s := newScript(seed)
	s.begin()
	for len(s.lines) < many {
		switch s.Intn(20) {
		case 0:
			s.odd()
		case 1, 2, 3, 4, 5, 6:
			s.ask()
		default:
			s.step()
		}
	}
	return s
}

// TestFirstLines: P21.6: what the first lines say does not hang on those behind.
func TestFirstLines(t *testing.T) {
	t.Parallel()
	for seed := range int64(4) {
		s := drawnText(4000+seed, 110)
		said, had := run(t, s.text()), ""
		for i := range s.lines {
			had += s.told[i]
			first := strings.Join(s.lines[:i+1], "\n")
			if got := run(t, first); got != had || !strings.HasPrefix(said, got) {
				t.Fatalf("P21.6: %s says %q, ahead of others %q", short(first), got, had)
			}
			other := drawnText(5000+int64(i), 5).text()
			if got := run(t, first+"\n"+other); !strings.HasPrefix(got, had) {
				t.Fatalf("P21.6: %s says %q, ahead of %q %q", short(first), had, other, got)
			}
		}
		if got := run(t, s.text()+"\n"); got != said {
			t.Fatalf("P21.1: with a byte 10 at the end %s says %q, without %q", short(s.text()), got, said)
		}
	}
}

// TestRemarksAnywhere: P21.6: remarks and empty lines turn nothing, wherever they stand.
func TestRemarksAnywhere(t *testing.T) {
	r := rand.New(rand.NewSource(6))
	for seed := range int64(60) {
		s := drawnText(6000+seed, 150)
		said := run(t, s.text())
		var l []string
		for _, line := range s.lines {
			for range r.Intn(5) {
				l = append(l, oneOf(r, "", "", "#", "##", "# a remark", "#staff 1 1 7", "#world 4 1 01 8192 65536 1", "#\x00 \xff\r", "# "+line))
			}
			l = append(l, line)
		}
		text := strings.Join(l, "\n") + oneOf(r, "", "\n", "\n#", "\n\n\n", "\n# the end\n")
		if got := run(t, text); got != said {
			t.Fatalf("P21.6: %s says %q, without remarks %q", short(text), got, said)
		}
	}
}

// TestTheSameAgain: R5: a text says the same each time, whatever was said between, and whoever else says something at the same time.
func TestTheSameAgain(t *testing.T) {
	var l []*script
	for seed := range int64(24) {
		l = append(l, drawnText(7000+seed, 200))
	}
	var all sync.WaitGroup
	for i := range l {
		all.Go(func() {
			for k := range 4 {
				s := l[(i+k*k)%len(l)]
				if said, e := shell.Run(s.text()); e != api.OK || said != s.p.said.String() {
					t.Errorf("R5: %s says %d, %q, want %q", short(s.text()), int(e), said, s.p.said.String())
				}
			}
		})
	}
	all.Wait()
	for _, text := range []string{"", "bag", "check 0", "staff 1 1 7\nworld 4 1 01 8192 65536 1", "public", "sign"} {
		want := run(t, text)
		run(t, l[0].text())
		shell.Run(strings.Repeat("\n", api.MaxLines+1))
		if got := run(t, text); got != want {
			t.Errorf("R5: %q says %q, and then %q", text, want, got)
		}
	}
}

// TestTwoTexts: one behind the other, the second one with a world of its own, they say what each says alone.
func TestTwoTexts(t *testing.T) {
	held := 0
	for seed := range int64(40) {
		one, two := drawnText(8000+seed, 100), drawnText(9000+seed, 100)
		if strings.Count("\n"+one.text(), "\nstaff") != len(people) { // one more was hired by a changed line
			continue
		}
		for i := range people { // they are there already
			two.lines[i], two.told[i] = "#", ""
		}
		if got, want := run(t, one.text()+"\n"+two.text()), one.p.said.String()+strings.Join(two.told, ""); got != want {
			t.Fatalf("P21.3: %s and then %s say %q, want %q", short(one.text()), short(two.text()), got, want)
		}
		held++
	}
	if held < 20 {
		t.Errorf("P21.3: only %d pairs", held)
	}
}
