package shell_test

import (
	"fmt"
	"strings"
	"testing"

	"almoner/quant"
)

// TestAccess: a line for each actor and record, rising; nothing for a log without events.
func TestAccess(t *testing.T) {
	says(t, "P21.5: access", "access|create 0 1 7 6 .|access", "ok 1 2|")
	text := "create 0 3 7 6 a=b|create 0 2 7 6 .|read 0 6 2 0|read 0 2 1 0|history 0 5 1|seal 0 6 1 1|read 0 2 1 0|break 0 4 1 heart|read 0 4 1 0|break 0 1 1 x|redact 0 6 2 1|amend 0 2 2 1 c=d|read 0 9 9 0|create 0 9 7 6 .|run 40|"
	want := "1 1 0 0 1 0|2 1 1 0 1 0|2 2 0 2 0 0|3 1 0 1 0 0|4 1 1 0 0 1|5 1 1 0 0 0|6 1 0 1 0 0|6 2 1 1 0 0|9 0 0 0 1 0|9 9 0 0 1 0|"
	told := lines(beginning + text)
	got := strokes(strings.TrimPrefix(run(t, told+"access"), run(t, told)))
	if got != want || got != accessOf(t, told) {
		t.Errorf("P21.5: access says %q, want %q, as counted %q", got, want, accessOf(t, told))
	}
}

// accessOf counts what the lines of the tail's log tell.
func accessOf(t *testing.T, told string) string {
	t.Helper()
	counts, creates := map[string][4]int{}, 0
	var order []string
	for _, line := range strings.Split(strings.TrimSuffix(strings.TrimPrefix(run(t, told+"log 2"), run(t, told)), "\n"), "\n") {
		l := numbersOf(t, line)
		actor, op, record, code := l[3], l[4], l[5], l[6]
		if op == 1 && code == 0 {
			creates++
			record = creates
		} else if op == 1 {
			record = 0
		}
		key := fmt.Sprintf("%09d %09d", actor, record)
		c, had := counts[key]
		if !had {
			order = append(order, key)
		}
		switch {
		case code != 0:
			c[2]++
		case op == 3 || op == 5:
			c[0]++
		case op == 7:
			c[3]++
		default:
			c[1]++
		}
		counts[key] = c
	}
	text := ""
	for _, key := range strings.Split(sortedLines(strings.Join(order, "|")), "|") {
		var actor, record int
		fmt.Sscanf(key, "%d %d", &actor, &record)
		text += fmt.Sprint(actor, " ", record, " ", strings.Trim(fmt.Sprint(counts[key]), "[]"), "|")
	}
	return text
}

// TestTrail: the places in one line, an empty one for none.
func TestTrail(t *testing.T) {
	says(t, "P21.5: trail", "trail 0|trail 1|trail 4294967295", "|||")
	says(t, "P21.5: trail", made+"read 0 1 1 0|run 8|read 0 1 2 0|run 8|create 0 9 7 6 .|run 8|history 0 5 1|run 8|create 0 2 7 6 .|run 8|trail 0|trail 1|trail 2|trail 3|trail 4294967295",
		madeSays+"ok 33 34|0 2 0 1 1|ok 53 54|0 3 3 0 0|ok 73 74|0 4 1 0 0|ok 93 94|0 5 0 1 1 1/0/0|ok 113 114|0 6 0 2 1|3|0 1 4|2 5|||")
}

// TestSeries: any word for the unit; for each point its place and the quantity, as a Q.
func TestSeries(t *testing.T) {
	text := "create 0 2 7 6 temp:36.6_C name=Ada|run 8|amend 0 3 1 1 temp:100_F|run 8|amend 0 3 1 2 temp! w:1_lb|run 8|amend 0 3 1 3 temp=high|run 8|amend 0 3 1 9 temp:1_K|run 8|amend 0 3 1 4 temp:-0_C|run 8|create 0 2 7 6 temp:5_K|run 8|"
	told := run(t, lines(beginning+text))
	for _, x := range []struct{ line, want string }{
		{"series 1 temp C", "0 36.6_C|1 37.77778_C|5 0_C|"}, {"series 1 temp F", "0 97.88_F|1 100_F|5 32_F|"}, {"series 1 temp K", "0 309.75_K|1 310.92776_K|5 273.15_K|"},
		{"series 1 w kg", "2 0.45359236_kg|"}, {"series 1 w lb", "2 1_lb|"}, {"series 1 w mg", "2 453592.38_mg|"}, {"series 2 temp C", "6 -268.15_C|"},
		{"series 1 name C", ""}, {"series 1 other 1", ""}, {"series 3 temp C", ""}, {"series 0 temp C", ""}, {"series 4294967295 temp %", ""},
		{"series 1 temp 1", "error 13|"}, {"series 1 temp mmol/L", "error 13|"}, {"series 1 w C", "error 13|"},
		{"series 1 temp c", "error 13|"}, {"series 1 temp x", "error 13|"}, {"series 1 temp 0", "error 13|"}, {"series 1 temp 11", "error 13|"}, {"series 1 temp -", "error 13|"}, {"series 1 temp .", "error 13|"}, {"series 1 temp _", "error 13|"}, {"series 1 temp C_", "error 13|"}, {"series 1 temp #", "error 13|"}, {"series 1 temp CC", "error 13|"}, {"series 1 temp \x00", "error 13|"}, {"series 1 temp \xff\xfe", "error 13|"}, {"series 1 temp 名=!:", "error 13|"}, {"series 1 temp C\r", "error 13|"}, {"series 1 temp C\t", "error 13|"},
		{"series 9 none x", "error 13|"}, {"series 1 temp " + strings.Repeat("C", 100000), "error 13|"},
	} {
		if got := strokes(strings.TrimPrefix(run(t, lines(beginning+text)+x.line), told)); got != x.want {
			t.Errorf("P21.5: %s says %q, want %q", short(x.line), got, x.want)
		}
	}
}

// TestAllUnits: each unit's name is a word for it; into the units that measure the same, the values are quant's.
func TestAllUnits(t *testing.T) {
	for from := uint8(1); from <= 21; from++ {
		ahead := []string{"staff 2 2 7", "staff 6 5 0", "world 4 1 01 8192 65536 1", "create 0 2 7 6 q:2.5_" + unitNames[from], "run 8"}
		var l []string
		for _, name := range unitNames[1:] {
			l = append(l, "series 1 q "+name)
		}
		for i, said := range saidBy(t, ahead, l...) {
			to := uint8(i + 1)
			want := "error 13"
			if value, e := quant.Convert(2.5, from, to); quant.Same(from, to) {
				text, wrong := quant.Format(value, to)
				if e != 0 || wrong != 0 {
					t.Fatal(from, to, e, wrong)
				}
				want = "0 " + strings.Replace(text, " ", "_", 1)
			}
			if len(said) != 1 || said[0] != want {
				t.Errorf("P21.5: series of %s in %s says %q, want %q", unitNames[from], unitNames[to], said, want)
			}
		}
	}
}

// TestOfTheTail: what is audited is what the tail has, be it behind the others, or off.
func TestOfTheTail(t *testing.T) {
	all := "access|trail 1|series 1 q g|replay|"
	one, more := "2 1 0 1 0 0|0|0 1_g|-1|", "2 1 0 1 0 0|6 1 1 0 0 0|0 1|0 1_g|-1|"
	says(t, "P21.5: audit's of the tail's log", "create 0 2 7 6 q:1_g|deliver 1|"+all+"run 8|"+all, "ok 1 2|ok||-1|0 1 0 1 1|"+one)
	says(t, "P21.5: audit's of the tail's log", "create 0 2 7 6 q:1_g|run 8|crash 2 0|"+all+"read 0 6 1 0|run 8|log 0|"+all+"restart 2 0|"+all+"run 8|"+all,
		"ok 1 2|0 1 0 1 1|ok|"+one+"ok 33 34|0 0 1 2 1 0 0|1 0 2 6 3 1 0|"+one+"ok|"+one+"0 2 0 1 1 q:1_g|"+more)
}

// TestReplay: whatever the staff is by now, the log is the model's, of the staff that there was.
func TestReplay(t *testing.T) {
	says(t, "P21.5: replay", "replay|"+made+"replay|create 0 9 7 6 .|run 8|replay|staff 9 1 7|replay|create 0 9 7 6 .|run 8|replay|crash 2 0|replay", "-1|"+madeSays+"-1|ok 33 34|0 2 1 0 0|-1|ok|-1|ok 53 54|0 3 1 0 0|-1|ok|-1|")
	for width := 1; width <= 32; width++ {
		saysAlone(t, "P21.5: replay", fmt.Sprintf("%sworld %d 0 01 8192 65536 1|%sreplay", hired, width, made), strings.Repeat("ok|", 7)+madeSays+"-1|")
	}
}

// TestPublic: of the world's keys, whatever happens in it.
func TestPublic(t *testing.T) {
	for _, width := range []int{1, 4, 32} {
		l := strings.Split(run(t, fmt.Sprintf("world %d 1 0102 8192 65536 1\npublic\ncrash 2 0\npublic\nworld %d 1 0102 8192 65536 2\npublic\nworld %d 2 0102 8192 65536 1\npublic\n", width, width, width)), "\n")
		if len(l) != 9 || len(l[1]) != 2*width || l[3] != l[1] || l[5] != l[1] || width > 1 && l[7] == l[1] {
			t.Errorf("P21.5: public of width %d: %q", width, l)
		}
	}
}

// TestBagLogGot: a line for each, and none for none.
func TestBagLogGot(t *testing.T) {
	for _, x := range []struct{ text, want string }{
		{"bag|log 0|log 1|log 2|got 0|log 3|log 4294967295|got 1|got 4294967295", ""},
		{"create 0 1 7 6 .|deliver 1|tick 0|bag|log 0|log 1|log 2", "ok 1 2|ok|ok 3|2 10 2 2|3 0 1 7|0 0 1 1 1 0 0|"},
		{made + "log 0|log 1|log 2|crash 0 0|crash 1 0|crash 2 0|log 0|log 1|log 2", madeSays + strings.Repeat("0 0 1 1 1 0 0|", 3) + "ok|ok|ok|" + strings.Repeat("0 0 1 1 1 0 0|", 3)},
		{"fill 0 1|create 0 1 7 6 .|deliver 1|bag", "ok|ok 1 2|ok 3|2 10 2 2|3 0 10 4|"},
	} {
		says(t, "P21.5", x.text, x.want)
	}
	two := hired + "world 4 1 01 8192 65536 16|create 15 1 7 6 .|create 3 2 7 6 .|bag|run 8|got 15|got 3|got 0|log 2"
	saysAlone(t, "P21.5", two, strings.Repeat("ok|", 7)+"ok 1 2|ok 3 4|1 25 0 1|2 25 2 2|3 13 0 1|4 13 2 2|"+answersIn(t, two)+"15 1 0 1 1|3 1 0 2 1|0 15 1 1 1 0 0|1 3 1 2 1 0 0|")
}

// answersIn tells the lines that a text's only run says, by the words.
func answersIn(t *testing.T, text string) string {
	t.Helper()
	ahead := lines(text[:strings.Index(text, "run 8")])
	return strokes(strings.TrimPrefix(held(t, ahead+"run 8"), held(t, ahead)))
}
