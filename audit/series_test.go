package audit_test

import (
	"math"
	"strings"
	"testing"

	"almoner/api"
	"almoner/audit"
	"almoner/quant"
)

// notNumbers are values that are no numbers.
func notNumbers() []float32 {
	return []float32{float(0x7fc00000), float(0x7f800001), float(0xffc00000), float32(math.Inf(1)), float32(math.Inf(-1))}
}

// creating is a log of one record, made with fields.
func creating(fields ...api.Field) []api.Event {
	return []api.Event{event(api.Done, of(api.OpCreate, 1, 0, fields...))}
}

// TestNoSuchUnit: EUNIT ahead of all else, whatever the list.
func TestNoSuchUnit(t *testing.T) {
	logs := map[string][]api.Event{
		"nil":                nil,
		"no such field":      creating(text("name", "Ada")),
		"a quantity":         creating(temp(37)),
		"no number":          creating(temp(float(0x7fc00000))),
		"a unit that is not": creating(quantity("temp", 37, 0)),
		"as the unit":        creating(quantity("temp", 37, 22)),
		"the example":        logOf(t, 4, story()),
	}
	for what, log := range logs {
		for unit := range 256 {
			if unit >= 1 && unit <= 21 {
				continue
			}
			for _, number := range []uint32{0, 1, 2} {
				noSeries(t, what, log, number, "temp", uint8(unit), api.EUNIT)
				noSeries(t, what, log, number, "", uint8(unit), api.EUNIT)
			}
		}
	}
	for unit := range uint8(21) {
		series(t, "no such field", logs["no such field"], 1, "temp", unit+1)
		series(t, "nil", nil, 1, "temp", unit+1)
	}
}

// TestSeriesInEachUnit: the first of one kind with the field's, rounded once; EUNIT for the others.
func TestSeriesInEachUnit(t *testing.T) {
	for from := range uint8(22) {
		for to := uint8(1); to <= 21; to++ {
			for _, x := range []float32{0, 1, 36.6, -40, 1e-45, 3e38, -3e38, math.MaxFloat32} {
				log := creating(quantity("x", x, from))
				want, e := quant.Convert(x, from, to)
				if e != api.OK {
					noSeries(t, "a unit", log, 1, "x", to, e)
				} else {
					series(t, "a unit", log, 1, "x", to, audit.Point{Place: 0, Value: want})
				}
			}
		}
	}
	series(t, "-0", creating(temp(float(1<<31))), 1, "temp", 11, audit.Point{}) // bits of 0: quant answers no -0
}

// TestWhichFields: those of that name, byte by byte, that are quantities: each of them, in their order.
func TestWhichFields(t *testing.T) {
	long := strings.Repeat("n", 300)
	log := creating(
		temp(1), text("temp", "2"), api.Field{Name: "temp", Kind: api.FieldGone}, api.Field{Name: "temp", Kind: api.FieldText, Value: 3, Unit: 11},
		api.Field{Name: "temp", Value: 4, Unit: 11}, api.Field{Name: "temp", Kind: 255, Value: 5, Unit: 11}, api.Field{Name: "temp", Kind: api.FieldGone, Value: 6, Unit: 1},
		quantity("temp ", 7, 11), quantity("tem", 8, 11), quantity("Temp", 9, 11), quantity("", 10, 11), quantity("temp\x00", 11, 11), quantity(long, 12, 11), quantity("\xff", 13, 11),
		quantity("temp", 14, 12), temp(1), api.Field{Name: "temp", Kind: api.FieldQuantity, Text: "15", Value: 15, Unit: 11},
	)
	log[0].Place = 77
	series(t, "temp", log, 1, "temp", 11, audit.Point{77, 1}, audit.Point{77, -10}, audit.Point{77, 1}, audit.Point{77, 15})
	series(t, "temp", log, 1, "temp ", 11, audit.Point{77, 7})
	series(t, "temp", log, 1, "", 11, audit.Point{77, 10})
	series(t, "temp", log, 1, long, 11, audit.Point{77, 12})
	series(t, "temp", log, 1, "\xff", 11, audit.Point{77, 13})
	series(t, "temp", log, 1, long[1:], 11)
	series(t, "temp", log, 1, "\xfe", 11)
	series(t, "temp", log, 1, "te", 11)
}

// TestWhichEvents: those that are done, create or amend, and speak of the record: each Op, each code.
func TestWhichEvents(t *testing.T) {
	for op := range 256 {
		for _, code := range codes {
			e := event(code, of(uint8(op), 1, 5, temp(37)))
			e.Place = 9
			isIn := code == api.Done && (op == api.OpCreate || op == api.OpAmend)
			for _, number := range []uint32{0, 1, 5, 6, most32} {
				is := uint32(5)
				if op == api.OpCreate {
					is = 1
				}
				if isIn && number == is {
					series(t, "an event", []api.Event{e}, number, "temp", 11, audit.Point{9, 37})
				} else {
					series(t, "an event", []api.Event{e}, number, "temp", 11)
				}
			}
		}
	}
}

// TestErrorsOfOthersDoNotCount: of fields and events that are not asked for nothing is converted.
func TestErrorsOfOthersDoNotCount(t *testing.T) {
	bad := []api.Field{quantity("temp", 1, 8), temp(float(0x7fc00000)), quantity("temp", 1, 0), quantity("temp", 1, 99)}
	for _, f := range bad {
		other, asText := f, f
		other.Name, asText.Kind = "other", api.FieldText
		for what, e := range map[string]api.Event{
			"refused":             event(api.Stale, of(api.OpAmend, 1, 1, f)),
			"a refused create":    event(api.NotAllowed, of(api.OpCreate, 1, 1, f)),
			"another record":      event(api.Done, of(api.OpAmend, 1, 2, f)),
			"another create":      event(api.Done, of(api.OpCreate, 1, 1, f)),
			"the record 0":        event(api.Done, of(api.OpAmend, 1, 0, f)),
			"a read":              event(api.Done, of(api.OpRead, 1, 1, f)),
			"a redact":            event(api.Done, of(api.OpRedact, 1, 1, f)),
			"a history":           event(api.Done, of(api.OpHistory, 1, 1, f)),
			"a seal":              event(api.Done, of(api.OpSeal, 1, 1, f)),
			"a break":             event(api.Done, of(api.OpBreak, 1, 1, f)),
			"no op":               event(api.Done, of(0, 1, 1, f)),
			"another name":        event(api.Done, of(api.OpAmend, 1, 1, other)),
			"a text of that name": event(api.Done, of(api.OpAmend, 1, 1, asText)),
		} {
			log := placed(event(api.Done, of(api.OpCreate, 1, 0, temp(36))), e, event(api.Done, of(api.OpAmend, 1, 1, temp(38))))
			series(t, what, log, 1, "temp", 11, audit.Point{0, 36}, audit.Point{2, 38})
		}
	}
}

// TestTheFirstErrorIsTheAnswer: that of Convert, along the list and the fields of each event, whatever stands ahead of it and behind.
func TestTheFirstErrorIsTheAnswer(t *testing.T) {
	good := quantity("x", 1, 4)
	noUnit, otherKind, tooGreat := quantity("x", 1, 0), quantity("x", 1, 8), quantity("x", 3e38, 4)
	bad := map[api.Errno][]api.Field{api.EUNIT: {noUnit, otherKind, quantity("x", float(0x7fc00000), 8), quantity("x", 1, 255)}, api.ERANGE: {tooGreat}}
	for _, x := range notNumbers() {
		bad[api.ERANGE] = append(bad[api.ERANGE], quantity("x", x, 1))
	}
	for e, fields := range bad {
		for _, f := range fields {
			noSeries(t, "one field", creating(f), 1, "x", 1, e)
			noSeries(t, "behind a good one", creating(good, f), 1, "x", 1, e)
			noSeries(t, "ahead of a good one", creating(f, good), 1, "x", 1, e)
			for other, behind := range bad {
				for _, g := range behind {
					noSeries(t, "two in one event", creating(good, f, g), 1, "x", 1, e)
					log := placed(event(0, of(api.OpCreate, 1, 0, good)), event(0, of(api.OpAmend, 1, 1, f, good)), event(0, of(api.OpAmend, 1, 1, g)))
					noSeries(t, "two events", log, 1, "x", 1, e)
					log[1], log[2] = log[2], log[1]
					noSeries(t, "two events, the other first", log, 1, "x", 1, other)
				}
			}
		}
	}
	series(t, "of the same kind", creating(tooGreat), 1, "x", 4, audit.Point{0, 3e38})
	series(t, "the first and the last one", creating(good, quantity("x", 2, 5)), 1, "x", 4, audit.Point{0, 1}, audit.Point{0, 0.9071847})
}

// TestSeriesOfMore: of a log that was made, also in any order of its events.
func TestSeriesOfMore(t *testing.T) {
	log := logOf(t, 4, more())
	series(t, "more", log, 1, "mass", 4, audit.Point{3, 70}, audit.Point{6, 69.853226})
	series(t, "more", log, 1, "mass", 5, audit.Point{3, 154.32358}, audit.Point{6, 154})
	series(t, "more", log, 1, "temp", 11, audit.Point{3, 36.5})
	series(t, "a text, then quantities", log, 2, "temp", 11, audit.Point{7, 37}, audit.Point{16, 40})
	series(t, "more", log, 3, "temp", 13, audit.Point{21, 308.15}, audit.Point{22, 300})
	series(t, "more", log, 3, "tempo", 19, audit.Point{22, 1})
	series(t, "a record that is not there", log, 4, "temp", 11)
	series(t, "the record 0", log, 0, "temp", 11)
	noSeries(t, "of another kind", log, 3, "tempo", 11, api.EUNIT)
	log[16], log[7] = log[7], log[16]
	series(t, "about", log, 2, "temp", 11, audit.Point{16, 40}, audit.Point{7, 37})
	log[16].Place, log[7].Place = most32, most32
	series(t, "of one place", log, 2, "temp", 11, audit.Point{most32, 40}, audit.Point{most32, 37})
}

// TestSeriesOfTheRecord0: events that are done, and speak of none.
func TestSeriesOfTheRecord0(t *testing.T) {
	log := placed(event(0, of(api.OpAmend, 1, 0, temp(1))), event(0, of(api.OpCreate, 1, 0, temp(2))), event(5, of(api.OpCreate, 1, 0, temp(3))), event(0, of(api.OpAmend, 1, 0, temp(4))))
	series(t, "the record 0", log, 0, "temp", 11, audit.Point{0, 1}, audit.Point{3, 4})
	series(t, "the record 1", log, 1, "temp", 11, audit.Point{1, 2})
}
