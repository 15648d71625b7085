package record_test

import (
	"fmt"
	"testing"

	"almoner/api"
	"almoner/quant"
)

func TestMerged(t *testing.T) {
	for _, c := range []struct {
		what              string
		was, change, want []api.Field
	}{
		{"an empty list", list(text("b", "1"), q(1)), nil, list(text("b", "1"), q(1))},
		{"an empty list onto none", nil, nil, nil},
		{"onto none", nil, list(text("b", "1"), q(1)), list(text("b", "1"), q(1))},
		{"ahead", list(text("b", "1"), text("d", "2")), list(text("a", "3")), list(text("a", "3"), text("b", "1"), text("d", "2"))},
		{"between", list(text("b", "1"), text("d", "2")), list(text("c", "3")), list(text("b", "1"), text("c", "3"), text("d", "2"))},
		{"behind", list(text("b", "1"), text("d", "2")), list(text("e", "3")), list(text("b", "1"), text("d", "2"), text("e", "3"))},
		{"ahead, between and behind", list(text("b", "1"), text("d", "2")), list(text("a", "3"), text("c", "4"), text("e", "5"), text("f", "6")), list(text("a", "3"), text("b", "1"), text("c", "4"), text("d", "2"), text("e", "5"), text("f", "6"))},
		{"the first replaced", list(text("b", "1"), text("d", "2")), list(text("b", "3")), list(text("b", "3"), text("d", "2"))},
		{"the last replaced", list(text("b", "1"), text("d", "2")), list(text("d", "3")), list(text("b", "1"), text("d", "3"))},
		{"all replaced", list(text("b", "1"), text("d", "2")), list(text("b", "4"), text("d", "3")), list(text("b", "4"), text("d", "3"))},
		{"replaced and added", list(text("b", "1"), text("d", "2")), list(text("b", "4"), text("c", "3")), list(text("b", "4"), text("c", "3"), text("d", "2"))},
		{"replaced by the same", list(text("b", "1"), text("d", "2")), list(text("b", "1")), list(text("b", "1"), text("d", "2"))},
		{"replaced by an empty text", list(text("b", "1")), list(text("b", "")), list(text("b", ""))},
		{"a text by a quantity", list(text("b", "1"), text("d", "2")), list(quantity("b", 0, 1)), list(quantity("b", 0, 1), text("d", "2"))},
		{"a quantity by a text", list(quantity("b", 1, 1), text("d", "2")), list(text("b", "")), list(text("b", ""), text("d", "2"))},
		{"a quantity by another", list(quantity("b", 1, 1)), list(quantity("b", 2, 4)), list(quantity("b", 2, 4))},
		{"the first taken away", list(text("b", "1"), text("d", "2")), list(gone("b")), list(text("d", "2"))},
		{"the last taken away", list(text("b", "1"), quantity("d", 2, 2)), list(gone("d")), list(text("b", "1"))},
		{"all taken away", list(text("b", "1"), text("d", "2")), list(gone("b"), gone("d")), nil},
		{"all and more taken away", list(text("b", "1"), text("d", "2")), list(gone("a"), gone("b"), gone("c"), gone("d"), gone("e")), nil},
		{"one that is not there, ahead", list(text("b", "1"), text("d", "2")), list(gone("a")), list(text("b", "1"), text("d", "2"))},
		{"one that is not there, between", list(text("b", "1"), text("d", "2")), list(gone("c")), list(text("b", "1"), text("d", "2"))},
		{"one that is not there, behind", list(text("b", "1"), text("d", "2")), list(gone("e")), list(text("b", "1"), text("d", "2"))},
		{"one that is not there, of none", nil, list(gone("e")), nil},
		{"one taken away between others", list(text("a", "1"), text("b", "2"), text("c", "3")), list(text("a", "4"), gone("b"), text("d", "5")), list(text("a", "4"), text("c", "3"), text("d", "5"))},
		{"names that begin alike", list(text("a", "1"), text("ab", "2")), list(text("aa", "3"), gone("ab"), text("abc", "4")), list(text("a", "1"), text("aa", "3"), text("abc", "4"))},
		{"names of another case", list(text("A", "1"), text("a", "2")), list(text("A", "3"), text("B", "4"), text("b", "5")), list(text("A", "3"), text("B", "4"), text("a", "2"), text("b", "5"))},
		{"bytes above 127", list(text("\x7f", "1"), text("\xff", "2")), list(text("\x80", "3"), gone("\xff")), list(text("\x7f", "1"), text("\x80", "3"))},
	} {
		u := begin(t, people)
		u.must(create(3, c.was...))
		if a := u.do(amend(3, 1, 1, c.change...)); a.Code != api.Done || a.Version != 2 {
			t.Errorf("P11.2: %s: %+v", c.what, a)
			continue
		}
		u.tells(6, 1, 2, c.want...)
		u.tells(6, 1, 1, c.was...)

		u.must(redact(6, 1, 2), amend(3, 1, 2, c.change...)) // a version that is redacted has none
		var kept []api.Field
		for _, f := range c.change {
			if f.Kind != api.FieldGone {
				kept = append(kept, f)
			}
		}
		u.tells(6, 1, 3, kept...)
		u.tells(6, 1, 1, c.was...)
	}
}

// TestAllSmallChanges: each set of four names, changed by each list in which each name is added, taken away or left.
func TestAllSmallChanges(t *testing.T) {
	names := "abcd"
	for was := range 16 {
		var fields []api.Field
		for i := range names {
			if was>>i&1 == 1 {
				fields = append(fields, text(names[i:i+1], "old"))
			}
		}
		for change := range 81 {
			var l, want []api.Field
			for i, left := 0, change; i < 4; i, left = i+1, left/3 {
				name := names[i : i+1]
				switch left % 3 {
				case 0:
					if was>>i&1 == 1 {
						want = append(want, text(name, "old"))
					}
				case 1:
					l, want = append(l, text(name, "new")), append(want, text(name, "new"))
				case 2:
					l = append(l, gone(name))
				}
			}
			u := begin(t, people)
			u.must(create(3, fields...), amend(3, 1, 1, l...))
			u.tells(6, 1, 0, want...)
		}
	}
}

func TestMostMergedFields(t *testing.T) {
	for _, begins := range []string{"a", "m0", "mAc", "z"} { // ahead, between and behind
		for had := 1; had <= 32; had++ {
			u := begin(t, people)
			u.must(create(3, many(had, "m")...))
			room := 32 - had
			u.refuses(api.TooMany, amend(3, 1, 1, many(room+1, begins)...))
			u.must(amend(3, 1, 1, many(room, begins)...))
			u.refuses(api.TooMany, amend(3, 1, 2, text("one more", "")))
			u.must(amend(3, 1, 2, many(had, "m")...)) // replaced, not added
		}
	}
}

// TestRoomIsMade: one that is taken away makes room for another, ahead of it and behind it; one that is not there makes none.
func TestRoomIsMade(t *testing.T) {
	for _, name := range []string{"a", "mm", "z"} {
		u := begin(t, people)
		u.must(create(3, many(32, "m")...))
		u.refuses(api.TooMany, amend(3, 1, 1, text(name, "")))
		u.refuses(api.TooMany, amend(3, 1, 1, inOrder(text(name, ""), gone("m"))...))
		u.must(amend(3, 1, 1, inOrder(text(name, ""), gone("mAd"))...))
		u.refuses(api.TooMany, amend(3, 1, 2, text("mAd", "")))
		u.must(redact(6, 1, 2), amend(3, 1, 2, many(32, "q")...))
		u.refuses(api.TooMany, amend(3, 1, 3, text(name, "")))
	}
}

// inOrder tells two fields, rising.
func inOrder(f, g api.Field) []api.Field {
	if f.Name < g.Name {
		return list(f, g)
	}
	return list(g, f)
}

// TestUnits: each unit changed into each other one.
func TestUnits(t *testing.T) {
	for a := uint8(1); a <= 21; a++ {
		for b := uint8(1); b <= 21; b++ {
			u := begin(t, people)
			u.must(create(3, text("a", ""), quantity("m", 1, a), text("z", "")))
			if !quant.Same(a, b) {
				u.refuses(api.BadUnit, amend(3, 1, 1, quantity("m", 2, b)))
				u.refuses(api.BadUnit, amend(3, 1, 1, text("a", "1"), quantity("m", 1, b), text("z", "1")))
				continue
			}
			u.must(amend(3, 1, 1, quantity("m", 2, b)))
			u.tells(6, 1, 0, text("a", ""), quantity("m", 2, b), text("z", ""))
		}
	}
}

// TestUnitsThatAreNotHeld: a quantity is held against a quantity of its name in the last version, against nothing else.
func TestUnitsThatAreNotHeld(t *testing.T) {
	for _, c := range []struct {
		what   string
		ahead  []api.Request
		change api.Request
		code   uint8
	}{
		{"what was a text", []api.Request{create(3, text("m", "x"))}, amend(3, 1, 1, quantity("m", 1, 8)), api.Done},
		{"what becomes a text", []api.Request{create(3, quantity("m", 1, 1))}, amend(3, 1, 1, text("m", "x")), api.Done},
		{"what is taken away", []api.Request{create(3, quantity("m", 1, 1))}, amend(3, 1, 1, gone("m")), api.Done},
		{"what was taken away", []api.Request{create(3, quantity("m", 1, 1)), amend(3, 1, 1, gone("m"))}, amend(3, 1, 2, quantity("m", 1, 8)), api.Done},
		{"what became a text", []api.Request{create(3, quantity("m", 1, 1)), amend(3, 1, 1, text("m", "x"))}, amend(3, 1, 2, quantity("m", 1, 8)), api.Done},
		{"what stands in a version that is redacted", []api.Request{create(3, quantity("m", 1, 1)), redact(6, 1, 1)}, amend(3, 1, 1, quantity("m", 1, 8)), api.Done},
		{"what stands in an older one alone", []api.Request{create(3, quantity("m", 1, 1)), amend(3, 1, 1), redact(6, 1, 2)}, amend(3, 1, 2, quantity("m", 1, 8)), api.Done},
		{"what the last one has, an older one being redacted", []api.Request{create(3, quantity("m", 1, 1)), amend(3, 1, 1), redact(6, 1, 1)}, amend(3, 1, 2, quantity("m", 1, 8)), api.BadUnit},
		{"what was changed to a unit that measures the same", []api.Request{create(3, quantity("m", 1, 1)), amend(3, 1, 1, quantity("m", 1, 5))}, amend(3, 1, 2, quantity("m", 1, 2)), api.Done},
		{"a new name", []api.Request{create(3, quantity("m", 1, 1))}, amend(3, 1, 1, quantity("M", 1, 8)), api.Done},
		{"the second of two", []api.Request{create(3, quantity("m", 1, 1), quantity("n", 1, 8))}, amend(3, 1, 1, quantity("m", 1, 2), quantity("n", 1, 1)), api.BadUnit},
		{"the first of two", []api.Request{create(3, quantity("m", 1, 1), quantity("n", 1, 8))}, amend(3, 1, 1, quantity("m", 1, 8), quantity("n", 1, 8)), api.BadUnit},
		{"the units of both, each of the other's name", []api.Request{create(3, quantity("m", 1, 1), quantity("n", 1, 8))}, amend(3, 1, 1, quantity("l", 1, 8), quantity("o", 1, 1)), api.Done},
		{"behind one that is taken away", []api.Request{create(3, quantity("m", 1, 1), quantity("n", 1, 8))}, amend(3, 1, 1, gone("m"), quantity("n", 1, 1)), api.BadUnit},
		{"in another record", []api.Request{create(3, quantity("n", 1, 1)), create(3, quantity("m", 1, 8))}, amend(3, 1, 1, quantity("m", 1, 1)), api.Done},
	} {
		u := begin(t, people)
		u.must(c.ahead...)
		if a := u.do(c.change); a.Code != c.code {
			t.Errorf("P11.2: %s: %+v, want the code %d", c.what, a, c.code)
		}
	}
}

func TestManyFieldsMerged(t *testing.T) {
	u := begin(t, people)
	var l []api.Field
	for i := range 32 {
		l = append(l, quantity(fmt.Sprintf("f%02d", i), float32(i), uint8(i%21+1)))
	}
	u.must(create(3, l...))
	for i := range l {
		l[i].Value++
	}
	u.must(amend(3, 1, 1, l...))
	u.tells(6, 1, 0, l...)
	u.must(amend(3, 1, 2, l[7:9]...))
	u.tells(6, 1, 0, l...)
}
