package record_test

import (
	"fmt"
	"math"
	"testing"

	"almoner/api"
	"almoner/quant"
	"almoner/record"
	"almoner/wire"
)

// hasForm asks whether a request has a form, and holds that against the words and against wire (P7.5).
func hasForm(t *testing.T, what string, r api.Request, want bool) {
	t.Helper()
	_, err := wire.PutRequest(r)
	if got := record.Formed(r); got != want || formed(r) != want || (err == nil) != want {
		t.Errorf("P11.1: %s: Formed(%+v): %v, want %v (the words: %v, wire: %v)", what, r, got, want, formed(r), err)
	}
}

// fieldHasForm asks it of a field, alone and as one of a list, in an OpCreate and in an OpAmend.
func fieldHasForm(t *testing.T, what string, f api.Field, want bool) {
	t.Helper()
	created := want && f.Kind != api.FieldGone
	hasForm(t, what+", in an OpAmend", amend(1, 1, 1, f), want)
	hasForm(t, what+", in an OpAmend, behind another", amend(1, 1, 1, text(" ", ""), f), want)
	hasForm(t, what+", in an OpAmend, ahead of another", amend(1, 1, 1, f, text("\xff\xff", "")), want)
	hasForm(t, what+", in an OpCreate", create(1, f), created)
	hasForm(t, what+", in an OpCreate, behind another", create(1, text(" ", ""), f), created)
}

// full tells a request of each Op with all that it uses.
func full(op uint8) api.Request {
	r := api.Request{Id: api.Id{Client: 1, Number: 2}, Actor: 3, Op: op}
	if uses(op, "record") {
		r.Record = 9
	}
	if uses(op, "version") {
		r.Version = 1
	}
	if uses(op, "ward") {
		r.Ward = 7
	}
	if uses(op, "owner") {
		r.Owner = 6
	}
	if uses(op, "fields") {
		r.Fields = list(text("a", "x"), quantity("b", 1, 1))
	}
	if uses(op, "reason") {
		r.Reason = "heart"
	}
	return r
}

func TestEachOp(t *testing.T) {
	for op := range 256 {
		known := op >= api.OpCreate && op <= api.OpBreak
		hasForm(t, "an Op without anything", api.Request{Op: uint8(op)}, known)
		hasForm(t, "an Op with all that it uses", full(uint8(op)), known)
	}
}

// TestWhatIsNotUsed sets each part, alone, of each Op, to what is not 0 or empty.
func TestWhatIsNotUsed(t *testing.T) {
	for op := uint8(api.OpCreate); op <= api.OpBreak; op++ {
		for _, r := range []api.Request{{Op: op}, full(op)} {
			for _, n := range []uint32{1, 256, 1 << 16, 1 << 31, most32} {
				ward, owner, number, version := r, r, r, r
				ward.Ward, owner.Owner, number.Record, version.Version = n, n, n, n
				hasForm(t, "a ward", ward, op == api.OpCreate)
				hasForm(t, "an owner", owner, op == api.OpCreate)
				hasForm(t, "a record", number, op != api.OpCreate)
				hasForm(t, "a version", version, op == api.OpAmend || op == api.OpRead || op == api.OpRedact || op == api.OpSeal && n == 1)
			}
			reason, fields := r, r
			reason.Reason, fields.Fields = "\x00", list(text("a", ""))
			hasForm(t, "a reason", reason, op == api.OpBreak)
			hasForm(t, "fields", fields, op == api.OpCreate || op == api.OpAmend)
			fields.Fields = list(api.Field{})
			hasForm(t, "a field of nothing", fields, false)
			fields.Fields = []api.Field{}
			hasForm(t, "an empty list", fields, true)
			fields.Fields = nil
			hasForm(t, "nil", fields, true)
		}
	}
}

func TestSealsVersion(t *testing.T) {
	for _, n := range []uint32{0, 1, 2, 3, 256, 257, 1 << 31, most32} {
		hasForm(t, "OpSeal", api.Request{Op: api.OpSeal, Record: 1, Version: n}, n <= 1)
	}
}

// TestAnyIdAndActor: they may be any, of each Op.
func TestAnyIdAndActor(t *testing.T) {
	for op := uint8(api.OpCreate); op <= api.OpBreak; op++ {
		for _, n := range []uint32{0, 1, 255, 1 << 31, most32} {
			hasForm(t, "a client", api.Request{Op: op, Id: api.Id{Client: n}}, true)
			hasForm(t, "a number", api.Request{Op: op, Id: api.Id{Number: n}}, true)
			hasForm(t, "an actor", api.Request{Op: op, Actor: n}, true)
		}
	}
}

func TestNamesTextsAndReasons(t *testing.T) {
	for _, n := range []int{0, 1, 2, 63, 64, 65, 66, 1000, 100000} {
		what := fmt.Sprint("of ", n, " bytes")
		hasForm(t, "a reason "+what, breakSeal(1, 1, long(n)), n <= api.MaxText)
		for _, f := range []api.Field{text(long(n), ""), text(long(n), "x"), quantity(long(n), 1, 1), gone(long(n))} {
			fieldHasForm(t, "a name "+what, f, n >= 1 && n <= api.MaxText)
		}
		fieldHasForm(t, "a text "+what, text("n", long(n)), n <= api.MaxText)
	}
	hasForm(t, "a name of MaxText bytes and fewer runes", create(1, text(long(62)+"é", "")), true)
	hasForm(t, "a name of MaxText runes and more bytes", create(1, text(long(63)+"é", "")), false)
	hasForm(t, "a text that is no text", create(1, text("\xff\xfe", "\xc0\x00")), true)
}

func TestHowManyFields(t *testing.T) {
	for _, n := range []int{0, 1, 31, 32, 33, 34, 64, 300} {
		what := fmt.Sprint(n, " fields")
		hasForm(t, what, create(1, many(n, "f")...), n <= api.MaxFields)
		hasForm(t, what, amend(1, 1, 1, many(n, "f")...), n <= api.MaxFields)
		var l []api.Field
		for _, f := range many(n, "f") {
			l = append(l, gone(f.Name))
		}
		hasForm(t, what+" taken away", amend(1, 1, 1, l...), n <= api.MaxFields)
	}
}

func TestNamesRise(t *testing.T) {
	for _, c := range []struct {
		first, second string
		ok            bool
	}{
		{"a", "b", true}, {"b", "a", false}, {"a", "a", false},
		{"A", "a", true}, {"a", "A", false}, {"Z", "a", true}, {"a", "B", false}, // case is told apart
		{"a", "aa", true}, {"aa", "a", false}, {"aa", "b", true}, {"b", "aa", false}, {"a", "a\x00", true}, {"a\x00", "a", false},
		{"9", "10", false}, {"10", "9", true},
		{"\x7f", "\x80", true}, {"\x80", "\x7f", false}, {"a\x7f", "a\x80", true}, {"\xff", "a", false}, {"a", "\xff", true}, {"\x80", "\xff", true}, {"\xff", "\x80", false}, {"é", "z", false}, {"z", "é", true}, // bytes above 127
		{"\x00", "\x01", true}, {"\x00", "\x00", false}, {long(64), long(63) + "n", true}, {long(63) + "n", long(64), false}, {long(63), long(64), true}, {long(64), long(63), false},
		{"", "a", false}, {"a", "", false}, {"", "", false},
	} {
		what := fmt.Sprintf("%q ahead of %q", c.first, c.second)
		hasForm(t, what, create(1, text(c.first, ""), text(c.second, "")), c.ok)
		hasForm(t, what, amend(1, 1, 1, quantity(c.first, 1, 1), gone(c.second)), c.ok)
		hasForm(t, what+", at a list's end", amend(1, 1, 1, text("\x00\x00", ""), text(c.first, ""), text(c.second, "")), c.ok && c.first > "\x00\x00")
	}
	hasForm(t, "the third not above the first", create(1, text("b", ""), text("c", ""), text("b", "")), false)
}

// odd tells values that are none of a quantity's: -0, what is no number, infinities.
func odd() map[string]float32 {
	return map[string]float32{
		"-0": float(1 << 31), "a NaN": float(0x7fc00000), "another NaN": float(0x7f800001), "a NaN below 0": float(0xffffffff), "math's NaN": float32(math.NaN()),
		"an infinity": float(0x7f800000), "one below 0": float(0xff800000),
	}
}

// even tells values of quantities, other than 0.
func even() []float32 {
	return []float32{1, -1, 36.6, float(1), float(0x80000001), float(0x007fffff), float(0x00800000), math.MaxFloat32, -math.MaxFloat32, float(0x7f7fffff), float(0xff7fffff)}
}

func TestTexts(t *testing.T) {
	fieldHasForm(t, "a text", text("n", "x"), true)
	fieldHasForm(t, "an empty text", text("n", ""), true)
	for name, x := range odd() {
		fieldHasForm(t, "a text with "+name, api.Field{Name: "n", Kind: api.FieldText, Text: "x", Value: x}, false)
		fieldHasForm(t, "an empty text with "+name, api.Field{Name: "n", Kind: api.FieldText, Value: x}, false)
	}
	for _, x := range even() {
		fieldHasForm(t, "a text with a value", api.Field{Name: "n", Kind: api.FieldText, Text: "x", Value: x}, false)
	}
	for _, unit := range []uint8{1, 11, 21, 22, 255} {
		fieldHasForm(t, "a text with a unit", api.Field{Name: "n", Kind: api.FieldText, Text: "x", Unit: unit}, false)
	}
}

func TestQuantities(t *testing.T) {
	for name, x := range odd() {
		fieldHasForm(t, "a quantity of "+name, quantity("n", x, 11), false)
	}
	for _, x := range append(even(), 0) {
		fieldHasForm(t, "a quantity", quantity("n", x, 11), true)
		if canon, e := quant.Canon(x); e != api.OK || canon != x {
			t.Errorf("%v is not what quant tells", x)
		}
		fieldHasForm(t, "a quantity with a text", api.Field{Name: "n", Kind: api.FieldQuantity, Text: "x", Value: x, Unit: 11}, false)
	}
	for unit := range 256 {
		fieldHasForm(t, fmt.Sprint("a quantity of the unit ", unit), quantity("n", 1, uint8(unit)), unit >= 1 && unit <= 21)
	}
	fieldHasForm(t, "a quantity with a text of a byte", api.Field{Name: "n", Kind: api.FieldQuantity, Text: "\x00", Value: 1, Unit: 11}, false)
	fieldHasForm(t, "a quantity of nothing", api.Field{Name: "n", Kind: api.FieldQuantity}, false)
}

func TestGone(t *testing.T) {
	fieldHasForm(t, "a field that is taken away", gone("n"), true)
	fieldHasForm(t, "one with a text", api.Field{Name: "n", Kind: api.FieldGone, Text: "\x00"}, false)
	fieldHasForm(t, "one with a unit", api.Field{Name: "n", Kind: api.FieldGone, Unit: 1}, false)
	for name, x := range odd() {
		fieldHasForm(t, "one with "+name, api.Field{Name: "n", Kind: api.FieldGone, Value: x}, false)
	}
	for _, x := range even() {
		fieldHasForm(t, "one with a value", api.Field{Name: "n", Kind: api.FieldGone, Value: x}, false)
	}
	fieldHasForm(t, "one with a quantity", api.Field{Name: "n", Kind: api.FieldGone, Value: 1, Unit: 1}, false)
}

func TestKinds(t *testing.T) {
	for kind := range 256 {
		for _, f := range []api.Field{{Name: "n"}, {Name: "n", Text: "x"}, {Name: "n", Value: 1, Unit: 1}} {
			f.Kind = uint8(kind)
			fieldHasForm(t, "a kind", f, kind == api.FieldText && f.Unit == 0 || kind == api.FieldQuantity && f.Unit == 1 || kind == api.FieldGone && f.Text == "" && f.Unit == 0)
		}
	}
}
