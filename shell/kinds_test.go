package shell_test

import (
	"fmt"
	"strings"
	"testing"

	"almoner/api"
)

// P21.2, a kind of word after the other. What a word tells is asked by what its line does.

// TestNumbers: the words that are a N, and those that are none, at each place of each row.
func TestNumbers(t *testing.T) {
	for _, word := range []string{"0", "7", "9", "10", "100", "2147483647", "2147483648", "4294967294", "4294967295"} {
		says(t, "P21.2: N", "read 0 "+word+" 1 0|deliver 1|log 0", "ok 1 2|ok|0 0 1 "+word+" 3 1 1|")
		says(t, "P21.2: N", "read 0 1 "+word+" 0|deliver 1|log 0", "ok 1 2|ok|0 0 1 1 3 "+word+" 3|")
	}
	for _, word := range []string{"", "00", "01", "007", "+1", "-1", "-0", "+0", "4294967296", "4294967297", "9999999999", "10000000000", "18446744073709551616", "18446744073709551617", "340282366920938463463374607431768211457",
		"1.0", "1.", ".1", "1e3", "0x1", "0b1", "0o7", "1_0", "_1", "1_", "1,", "a", "N", "-", ".", "!", "١", "１", "²", "1\x00", "\x001", "1\t", "\xff", "1k", strings.Repeat("0", 100), strings.Repeat("9", 100)} {
		for _, r := range table {
			atEachPlace(t, r.form, "N", word)
		}
	}
}

// plainWords tells a line of a form, of words that are well.
func plainWords(form string) []string {
	words := strings.Fields(form)
	for i, kind := range words[1:] {
		words[i+1] = map[string]string{"N": "1", "TEXT": "t", "HEX": "01", "UNIT": "C", "FIELDS": "."}[kind]
	}
	return words
}

// atEachPlace asks for EFORM where a word stands in a form in the place of one of a kind.
func atEachPlace(t *testing.T, form, kind, word string) {
	t.Helper()
	for i, k := range strings.Fields(form) {
		if k != kind {
			continue
		}
		words := plainWords(form)
		words[i] = word
		exactly(t, "P21.2: "+kind+" of "+form, strings.Join(words, " "), "error 3\n")
		exactly(t, "P21.2: "+kind+" of "+form, lines(beginning)+"verifier\n"+strings.Join(words, " "), strings.Repeat("ok\n", 8)+"error 3\n")
	}
}

// TestNumbersAreSteps: great numbers come through as they are: no one is taken for another that is less by 2^32.
func TestNumbersAreSteps(t *testing.T) {
	for _, x := range []struct{ line, want string }{
		{"retry 4294967295", "error 1"}, {"retry 4294967296", "error 3"}, {"deliver 4294967295", "error 15"}, {"deliver 4294967297", "error 3"}, {"tick 4294967295", "error 1"}, {"tick 256", "error 1"},
		{"crash 0 4294967295", "ok"}, {"arm 0 4294967295 4294967295", "ok"}, {"arm 0 4294967296 0", "error 3"}, {"fill 0 4294967295", "ok"}, {"fill 65536 0", "error 1"}, {"run 4294967295", "error 2"}, {"run 4294967296", "error 3"},
		{"staff 4294967295 4294967295 4294967295", "ok"}, {"staff 4294967296 1 1", "error 3"}, {"world 4294967295 1 01 8192 65536 1", "error 1"}, {"world 4 4294967297 01 8192 65536 1", "error 3"}, {"world 4 1 01 8192 4294967295 1", "error 1"}, {"world 4 1 01 4294967295 65536 1", "error 1"}, {"world 4 1 01 8192 65536 4294967295", "error 1"}, {"world 4 1 01 8192 65536 4294967297", "error 3"},
		{"create 4294967295 1 7 6 .", "error 1"}, {"create 4294967296 1 7 6 .", "error 3"},
	} {
		says(t, "P21.2: N", x.line, x.want+"|")
	}
	says(t, "P21.2: N: all parts", "create 0 4294967295 4294967294 4294967293 .|amend 0 4294967292 4294967291 4294967290 .|history 0 4294967289 4294967288|deliver 1|deliver 3|deliver 4|deliver 5|deliver 7|log 0",
		"ok 1 2|ok 3 4 5 6|ok 7 8 9 10 11 12|ok|ok|ok|ok|ok|0 0 1 4294967295 1 0 1|1 0 2 4294967292 2 4294967291 1|")
}

// TestTexts: a word of each byte, and of each length.
func TestTexts(t *testing.T) {
	t.Parallel()
	const good = "abcdefghijklmnopqrstuvwxyzABCDEFGHIJKLMNOPQRSTUVWXYZ0123456789._"
	for b := range 256 {
		letter := string([]byte{byte(b)})
		may := strings.Contains(good, letter)
		for _, text := range []string{letter, "a" + letter, letter + "a", "a" + letter + "z", strings.Repeat("x", 63) + letter} {
			isTextAt(t, text, may)
		}
	}
	for _, text := range []string{good, good[1:], strings.Repeat("Z", 64), "...", "___", "..", "a.b_c", "007", "4294967296", "true"} {
		isTextAt(t, text, true)
	}
	for _, text := range []string{"", good + ".", "." + good, strings.Repeat("a", 65), strings.Repeat("a", 1000), "é", "ä.", "Ada\u0301", "a-b", "a b", "名", "a/b", "a%", "\u017f", "\u212a"} {
		isTextAt(t, text, false)
	}
}

// isTextAt asks in each place of a TEXT whether that is one, and what is told of it then.
func isTextAt(t *testing.T, text string, may bool) {
	t.Helper()
	if text == "\n" || strings.Contains(text, "\n") {
		return // it parts lines
	}
	places := []string{"break 0 4 1 " + text, "series 1 " + text + " C", "create 0 1 7 6 name=" + text, "create 0 1 7 6 " + text + "=Ada", "create 0 1 7 6 " + text + ":36.6_C", "amend 0 1 1 1 " + text + "!"}
	if text == "" {
		places[0] = "break 0 4 1 "
	}
	for _, line := range places {
		want := "ok 33 34|"
		switch {
		case !may:
			want = "error 3|"
		case strings.HasPrefix(line, "series"):
			want = ""
		}
		if said := strings.TrimPrefix(run(t, lines(beginning+made)+line), strings.Repeat("ok\n", 7)+lines(madeSays)); strokes(said) != want {
			t.Errorf("P21.2: TEXT: %q says %q, want %q", line, said, want)
		}
	}
	if may {
		says(t, "P21.2: TEXT", "create 0 1 7 6 "+text+"="+text+"|run 8|read 0 1 1 0|run 8", "ok 1 2|0 1 0 1 1|ok 33 34|0 2 0 1 1 "+text+"="+text+"|")
	}
}

// TestReasons: a break's reason is its text, and none is none.
func TestReasons(t *testing.T) {
	says(t, "P21.5: break", made+"break 0 4 1|run 8|read 0 4 1 0|run 8|break 0 4 1 heart|run 8|read 0 4 1 0|run 8|log 0",
		madeSays+"ok 33 34|0 2 5 0 0|ok 53 54|0 3 5 0 0|ok 73 74|0 4 0 1 0|ok 93 94|0 5 0 1 1|0 0 1 1 1 0 0|1 0 2 4 7 1 5|2 0 3 4 3 1 5|3 0 4 4 7 1 0|4 0 5 4 3 1 0|")
	// The entry's hash shows that it is the whole text, as it stands.
	for _, text := range []string{"heart", "Heart", "0", strings.Repeat("z", 64), "._."} {
		held(t, lines(beginning+made+"break 0 4 1 "+text+"|run 8|sign"))
		held(t, lines(beginning+made+"break 0 2 1 "+text+"|run 8|sign"))
	}
}

// TestQuantities: of each unit, and each form of a number.
func TestQuantities(t *testing.T) {
	for _, unit := range unitNames[1:] {
		says(t, "P21.2: Q", "create 0 1 7 6 .|run 8|amend 0 2 1 1 q:36.60_"+unit+"|run 8|read 0 6 1 0|run 8|series 1 q "+unit, "ok 1 2|0 1 0 1 1|ok 33 34|0 2 0 1 2|ok 53 54|0 3 0 1 2 q:36.6_"+unit+"|1 36.6_"+unit+"|")
	}
	for _, x := range []struct{ word, want string }{
		{"0_g", "0_g"}, {"-0_g", "0_g"}, {"-0.0_g", "0_g"}, {"000_g", "0_g"}, {"007_kg", "7_kg"}, {"-1_C", "-1_C"}, {"0.10_L", "0.1_L"}, {"1.000_1", "1_1"}, {"1_1", "1_1"}, {"1_%", "1_%"}, {"-273.15_C", "-273.15_C"},
		{"16777217_g", "16777216_g"}, {"16777219_g", "16777220_g"}, {"0.1000000001_g", "0.1_g"}, {"340282346638528859811704183484516925440_g", "340282350000000000000000000000000000000_g"},
		{"340282356779733661637539395458142568447_g", "340282350000000000000000000000000000000_g"}, {"0." + strings.Repeat("0", 44) + "1_g", "0." + strings.Repeat("0", 44) + "1_g"}, {"0." + strings.Repeat("0", 60) + "1_g", "0_g"},
		{strings.Repeat("0", 253) + "5_g", "5_g"}, {"1." + strings.Repeat("0", 252) + "_g", "1_g"},
	} {
		says(t, "P21.2: Q", "create 0 2 7 6 q:"+x.word+"|run 8|read 0 6 1 0|run 8", "ok 1 2|0 1 0 1 1|ok 33 34|0 2 0 1 1 q:"+x.want+"|")
	}
	for _, word := range []string{"", "_", "36.6", "36.6C", "36.6_", "_C", "36.6__C", "36.6_C_", "_36.6_C", "36_6_C", "36.6_c", "36.6_CC", "36.6_C!", "36.6_Celsius", "36.6_0", "1_2", "1_t", "1_x", "1_g_", "+1_g", "--1_g", "1._g", ".5_g", "-.5_g", "-_g", "1,5_g", "1e3_g", "1E3_g", "0x1_g", "NaN_g", "Inf_g", "inf_g", "1.2.3_g", "١_g", "1\t_g", "36.6-C", "36.6\u00a0C", "1_mmol", "1_mmol/l", "1_/", "1_/h", "1_min", "1_%%", "1_-",
		"340282356779733661637539395458142568448_g", "-340282356779733661637539395458142568448_g", "1" + strings.Repeat("0", 39) + "_g", strings.Repeat("9", 200) + "_g", strings.Repeat("0", 254) + "5_g", "1." + strings.Repeat("0", 253) + "_g", strings.Repeat("0", 100000) + "1_g"} {
		refused(t, "P21.2: Q", "", "create 0 2 7 6 q:"+word, api.EFORM)
		refused(t, "P21.2: Q", made, "amend 0 2 1 1 a=b q:"+word+" z!", api.EFORM)
	}
}

// TestHex: the seed is the bytes that are told; an odd number of digits, great letters and other signs have no form.
func TestHex(t *testing.T) {
	for _, x := range []struct{ word, other string }{{"01", "02"}, {"00", "10"}, {"ff", "fe"}, {"a0", "0a"}, {"0102", "0201"}, {"0123456789abcdef", "0123456789abcdee"}, {strings.Repeat("00", 64), strings.Repeat("00", 63)}, {strings.Repeat("9f", 64), strings.Repeat("9f", 63) + "9e"}} {
		one, other := run(t, "world 32 0 "+x.word+" 8192 8192 1\npublic"), run(t, "world 32 0 "+x.other+" 8192 8192 1\npublic")
		if one == other || len(one) != 3+64+1 {
			t.Errorf("P21.2: HEX: %q says %q, %q says %q", x.word, one, x.other, other)
		}
	}
	for b := range 256 {
		held(t, fmt.Sprintf("world 32 0 %02x 8192 8192 1\npublic\nworld 1 0 00%02x 8192 8192 1\npublic", b, b))
	}
	for _, word := range []string{"-", strings.Repeat("00", 65), strings.Repeat("ab", 5000)} {
		refused(t, "P21.2: HEX", "", "world 4 1 "+word+" 8192 65536 1", api.EARG)
	}
	for _, word := range []string{"", "0", "1", "a", "012", "0A", "A0", "AB", "Ff", "0g", "g0", "--", "-0", "0-", "-00", "00-", "00-00", "0x01", "01 02", " 01", "zz", "+1", "-1", "0.", "é", "0\x00", "\x00\x00", "١", strings.Repeat("a", 129), strings.Repeat("00", 40) + "0G"} {
		refused(t, "P21.2: HEX", "", "world 4 1 "+word+" 8192 65536 1", api.EFORM)
	}
}

// TestHexDigits: each two bytes are a byte's, or none.
func TestHexDigits(t *testing.T) {
	const good = "0123456789abcdef"
	for b := range 256 {
		letter := string([]byte{byte(b)})
		if letter == "\n" {
			continue
		}
		for _, word := range []string{letter + "0", "0" + letter, "00" + letter + "0", "000" + letter} {
			want := "error 3\n"
			if strings.Contains(good, letter) {
				want = "ok\n"
			}
			exactly(t, "P21.2: HEX", "world 1 0 "+word+" 8192 8192 1", want)
		}
	}
}

// TestFields: in every order, of each kind.
func TestFields(t *testing.T) {
	words := []string{"b=x", "a:1_g", "B=.", "_:-2.5_C", "a.b=y"}
	told := "B=. _:-2.5_C a:1_g a.b=y b=x" // rising byte by byte
	each(words, func(l []string) {
		says(t, "P21.2: FIELDS", "create 0 2 7 6 "+strings.Join(l, " ")+"|run 8|read 0 6 1 0|run 8", "ok 1 2|0 1 0 1 1|ok 33 34|0 2 0 1 1 "+told+"|")
	})
	says(t, "P21.2: FIELDS", "create 0 2 7 6 c=1 b:2_g a=3|run 8|amend 0 2 1 1 z! c! d=4 b:5_kg|run 8|read 0 6 1 0|run 8|read 0 6 1 1|run 8|amend 0 2 1 2 .|run 8|read 0 6 1 3|run 8|amend 0 2 1 3 a! b! d!|run 8|read 0 6 1 0|run 8|history 0 6 1|run 8",
		"ok 1 2|0 1 0 1 1|ok 33 34|0 2 0 1 2|ok 53 54|0 3 0 1 2 a=3 b:5_kg d=4|ok 73 74|0 4 0 1 1 a=3 b:2_g c=1|ok 93 94|0 5 0 1 3|ok 113 114|0 6 0 1 3 a=3 b:5_kg d=4|ok 133 134|0 7 0 1 4|ok 153 154|0 8 0 1 4|ok 173 174|0 9 0 1 4 2/0/3 2/1/3 2/4/3 2/6/0|")
	says(t, "P21.2: FIELDS: names that are signs", "create 0 2 7 6 .=. _=_ 0=0|run 8|amend 0 2 1 1 .!|run 8|read 0 6 1 0|run 8|read 0 6 1 1|run 8", "ok 1 2|0 1 0 1 1|ok 33 34|0 2 0 1 2|ok 53 54|0 3 0 1 2 0=0 _=_|ok 73 74|0 4 0 1 1 .=. 0=0 _=_|")
}

// each tells all orders of words.
func each(l []string, f func([]string)) {
	if len(l) == 0 {
		f(nil)
	}
	for i := range l {
		rest := append(append([]string(nil), l[:i]...), l[i+1:]...)
		each(rest, func(behind []string) { f(append([]string{l[i]}, behind...)) })
	}
}

// TestNoFields: words that are none, two of one name, a point beside others.
func TestNoFields(t *testing.T) {
	for _, words := range []string{"", " ", ". .", "a=x .", ". a=x", ". a!", "a=x a=x", "a=x a=y", "a=x a:1_g", "a:1_g a!", "a! a!", "a=x b=y a=z", "b=y a=x c=z a!", "a=x b=y c=z c:1_g", "a", "=", "a=", "=x", ":", "a:", ":1_g", "!", "a!x", "a!!", "!a", "a=!", "a=x!", "a=x=y", "a==x", "a=:x", "a:=x", "a:1_g=x", "a:1_g!", "a!=x", "a!:1_g", "a=1_g:", "a;x", "-", "..", "a-b=x", "a=x-y", "a/b:1_g", "a=x,b=y", "a=x\tb=y", "a=x  b=y", "\x00=x", "a=\xff", "é!", "FIELDS",
		strings.Repeat("a", 65) + "=x", "a=" + strings.Repeat("x", 65), strings.Repeat("a", 65) + "!", strings.Repeat("a", 65) + ":1_g"} {
		for _, line := range []string{"create 0 2 7 6 ", "amend 0 2 1 1 "} {
			refused(t, "P21.2: FIELDS", made, line+words, api.EFORM)
		}
	}
	for _, line := range []string{"create 0 2 7 6", "amend 0 2 1 1"} {
		refused(t, "P21.2: FIELDS: none", made, line, api.EFORM)
	}
	// These have the form of the table; the call refuses them.
	refused(t, "P21.5: create with a field that goes", "", "create 0 2 7 6 a!", api.EARG)
	refused(t, "P21.5: create with a field that goes", "", "create 0 2 7 6 b=x a!", api.EARG)
	says(t, "P21.5: amend with a field that goes", made+"amend 0 2 1 1 a!", madeSays+"ok 33 34|")
}

// fieldsUpTo tells so many words.
func fieldsUpTo(many int) string {
	var l []string
	for i := range many {
		l = append(l, fmt.Sprintf("f%d=%d", i, i))
	}
	return strings.Join(l, " ")
}

// TestManyFields: MaxFields are taken, one more is refused by the call, as are very many; two of one name have no form, however many there are.
func TestManyFields(t *testing.T) {
	says(t, "P21.2: FIELDS: MaxFields", "create 0 2 7 6 "+fieldsUpTo(api.MaxFields), "ok 1 2|")
	says(t, "P21.2: FIELDS: MaxFields", made+"amend 0 2 1 1 "+fieldsUpTo(api.MaxFields), madeSays+"ok 33 34|")
	for _, many := range []int{api.MaxFields + 1, 100, 50000} {
		says(t, "P21.5: more fields", "create 0 2 7 6 "+fieldsUpTo(many), "error 1|")
		says(t, "P21.5: more fields", made+"amend 0 2 1 1 "+fieldsUpTo(many), madeSays+"error 1|")
		says(t, "P21.2: two of one name", "create 0 2 7 6 "+fieldsUpTo(many)+" f7!", "error 3|")
		says(t, "P21.2: one that is none", "create 0 2 7 6 "+fieldsUpTo(many)+" f7", "error 3|")
	}
}
