package record_test

import (
	"slices"
	"testing"

	"almoner/api"
	"almoner/record"
)

// q and n are the fields of the chapter's examples.
func q(x float32) api.Field { return quantity("temp", x, 11) }

func n(s string) api.Field { return text("name", s) }

func TestExamples(t *testing.T) {
	s := record.New(people)
	for i, c := range []struct {
		r    api.Request
		want api.Answer
	}{
		{create(1, n("Ada")), api.Answer{Record: 1, Version: 1}},
		{amend(2, 1, 1, q(37)), api.Answer{Record: 1, Version: 2}},
		{amend(1, 1, 2, q(38)), api.Answer{Code: api.NotAllowed}},
		{amend(3, 1, 1, q(39)), api.Answer{Code: api.Stale}},
		{amend(3, 1, 2, gone("name"), q(39)), api.Answer{Record: 1, Version: 3}},
		{read(6, 1, 0), api.Answer{Record: 1, Version: 3, Fields: list(q(39))}},
		{read(6, 1, 2), api.Answer{Record: 1, Version: 2, Fields: list(n("Ada"), q(37))}},
		{read(6, 1, 9), api.Answer{Code: api.NoVersion}},
		{seal(6, 1), api.Answer{Record: 1}},
		{read(2, 1, 0), api.Answer{Code: api.IsSealed}},
		{breakSeal(4, 1, "heart"), api.Answer{Record: 1}},
		{read(4, 1, 1), api.Answer{Record: 1, Version: 1, Fields: list(n("Ada"))}},
		{seal(6, 1), api.Answer{Record: 1}},
		{read(4, 1, 0), api.Answer{Code: api.NotAllowed}},
		{redact(3, 1, 1), api.Answer{Record: 1, Version: 1}},
		{read(3, 1, 1), api.Answer{Code: api.IsRedacted}},
		{history(5, 1), api.Answer{Record: 1, Version: 3, History: []api.Summary{{Author: 1, Redacted: true}, {Author: 2, Event: 1, Fields: 2}, {Author: 3, Event: 4, Fields: 1}}}},
		{amend(3, 1, 3, quantity("temp", 5, 8)), api.Answer{Code: api.BadUnit}},
		{read(9, 1, 0), api.Answer{Code: api.NoActor}},
		{read(3, 2, 0), api.Answer{Code: api.NoRecord}},
	} {
		c.r.Id = api.Id{Client: 4, Number: uint32(100 - i)}
		c.want.Id = c.r.Id
		if got := s.Apply(c.r, uint32(i)); !same(got, c.want) {
			t.Errorf("P11.2: %+v: %+v, want %+v", c.r, got, c.want)
		}
	}
}

func TestNew(t *testing.T) {
	for _, staff := range [][]api.Staff{nil, {}, people, {{Actor: 3, Role: 99}, {Actor: 3}, {Actor: 1, Role: 3}}, slices.Repeat(people, 100)} {
		s := record.New(staff)
		if s.Records() != 0 {
			t.Errorf("P11.1: %d records in a new state", s.Records())
		}
		u := begin(t, staff)
		u.do(create(1))
		u.do(history(3, 1))
	}
	a := record.New(nil).Apply(create(1), 0)
	if a.Code != api.NoActor {
		t.Errorf("P11.2: without a staff: %+v", a)
	}
}

// TestTheFirstOfTwoPeopleOfANumber: policy looks into the staff.
func TestTheFirstOfTwoPeopleOfANumber(t *testing.T) {
	staff := []api.Staff{{Actor: 6, Role: api.RolePatient}, {Actor: 3, Role: api.RoleDoctor, Ward: 7}, {Actor: 3, Role: api.RoleClerk, Ward: 8}, {Actor: 6, Role: api.RoleDoctor, Ward: 7}}
	u := begin(t, staff)
	u.must(create(3, n("Ada")))
	u.refuses(api.NotAllowed, api.Request{Actor: 3, Op: api.OpCreate, Ward: 8, Owner: 6})
	u.refuses(api.NotAllowed, create(6))
	u.tells(6, 1, 1, n("Ada"))
}

// flaw is something for which a request is refused, and how a request gets it.
type flaw struct {
	code uint8
	set  func(r *api.Request)
}

// wantFirst asks, of each set of flaws, for the code of the first one.
func wantFirst(u *run, r api.Request, flaws []flaw) {
	u.t.Helper()
	for set := 1; set < 1<<len(flaws); set++ {
		bad, first := r, -1
		bad.Fields = slices.Clone(r.Fields)
		for i := len(flaws) - 1; i >= 0; i-- { // the first one last: so it stands where two are of one part
			if set>>i&1 == 1 {
				flaws[i].set(&bad)
				first = i
			}
		}
		u.refuses(flaws[first].code, bad)
	}
}

// general are the flaws that each Op's requests may have.
func general() []flaw {
	return []flaw{
		{api.NoForm, func(r *api.Request) { r.Ward, r.Record = 7, 1 }}, // no Op uses both
		{api.NoActor, func(r *api.Request) { r.Actor = 9 }},
		{api.NoRecord, func(r *api.Request) { r.Record = 400 }},
	}
}

func by(actor uint32) func(r *api.Request) { return func(r *api.Request) { r.Actor = actor } }

func of(version uint32) func(r *api.Request) {
	return func(r *api.Request) { r.Version = version }
}

func with(fields ...api.Field) func(r *api.Request) {
	return func(r *api.Request) { r.Fields = append(slices.Clone(fields), r.Fields...) }
}

func TestTheOrderOfCodesOfCreate(t *testing.T) {
	u := begin(t, people)
	l := slices.Delete(general(), 2, 3)
	noOwner := flaw{api.NoActor, func(r *api.Request) { r.Owner = 3 }}
	notAllowed := flaw{api.NotAllowed, by(4)}
	wantFirst(u, create(1, n("Ada")), append(l, noOwner, notAllowed))
	for range api.MaxRecords {
		u.must(create(1, n("Ada")))
	}
	wantFirst(u, create(1, n("Ada")), append(l, noOwner, notAllowed, flaw{api.TooMany, func(*api.Request) {}}))
}

// TestTheOrderOfCodesOfAmend: the merged fields, or the versions, are too many, in a record whose last version has quantities.
func TestTheOrderOfCodesOfAmend(t *testing.T) {
	u := begin(t, people)
	u.must(create(1, many(30, "b")...), amend(3, 1, 1, q(37)), amend(3, 1, 2, quantity("mass", 1, 4)), seal(6, 1))
	l := append(general(), flaw{api.IsSealed, by(2)}, flaw{api.NoVersion, of(0)}, flaw{api.Stale, of(2)}, flaw{api.TooMany, with(text("a", ""))}, flaw{api.BadUnit, func(r *api.Request) { r.Fields[len(r.Fields)-1].Unit = 8 }})
	wantFirst(u, amend(3, 1, 3, q(38)), l)
	l[3], l[4], l[5] = flaw{api.NotAllowed, by(5)}, flaw{api.NoVersion, of(most32)}, flaw{api.Stale, of(1)}
	wantFirst(u, amend(3, 1, 3, q(38)), l)

	u.must(unseal(6, 1))
	l[3], l[4] = flaw{api.NotAllowed, by(1)}, flaw{api.NoVersion, of(4)} // a clerk may not change a quantity
	wantFirst(u, amend(3, 1, 3, q(38)), l)
	for v := uint32(3); v < api.MaxVersions; v++ {
		u.must(amend(3, 1, v, q(float32(v))))
	}
	l[4], l[6] = flaw{api.NoVersion, of(65)}, flaw{api.TooMany, func(*api.Request) {}}
	wantFirst(u, amend(3, 1, 64, q(38)), l[:7])
	wantFirst(u, amend(3, 1, 64, quantity("temp", 38, 8)), l[:7])
}

// TestTheOrderOfCodesOfOthers: of versions that are not there and of those that are redacted.
func TestTheOrderOfCodesOfOthers(t *testing.T) {
	u := begin(t, people)
	u.must(create(1, n("Ada")), amend(3, 1, 1, q(37)), amend(3, 1, 2, q(38)), redact(3, 1, 1), redact(3, 1, 3), seal(6, 1))
	for _, policy := range []flaw{{api.IsSealed, by(2)}, {api.NotAllowed, by(4)}, {api.NotAllowed, by(5)}} {
		redacted := flaw{api.IsRedacted, of(1)}
		last := flaw{api.IsRedacted, of(0)}
		wantFirst(u, read(3, 1, 2), append(general(), policy, flaw{api.NoVersion, of(4)}, redacted))
		wantFirst(u, read(3, 1, 2), append(general(), policy, flaw{api.NoVersion, of(most32)}, last))
	}
	for _, policy := range []flaw{{api.NotAllowed, by(2)}, {api.NotAllowed, by(4)}} {
		for _, none := range []uint32{0, 4, most32} {
			wantFirst(u, redact(3, 1, 2), append(general(), policy, flaw{api.NoVersion, of(none)}, flaw{api.IsRedacted, of(3)}))
		}
	}
	for _, policy := range []flaw{{api.IsSealed, by(2)}, {api.NotAllowed, by(4)}} {
		wantFirst(u, history(3, 1), append(general(), policy))
	}
	wantFirst(u, seal(6, 1), append(general(), flaw{api.NotAllowed, by(3)}))
	wantFirst(u, unseal(6, 1), append(general(), flaw{api.NotAllowed, by(3)}))
	wantFirst(u, breakSeal(4, 1, "x"), append(general(), flaw{api.NotAllowed, by(1)}, flaw{api.NotAllowed, func(r *api.Request) { r.Reason = "" }}))
}

// TestRecordsThatAreNot: the numbers beside those that there are, of each Op.
func TestRecordsThatAreNot(t *testing.T) {
	u := begin(t, people)
	for records := range uint32(4) {
		for _, number := range []uint32{0, records + 1, records + 2, 256, 257, 1 << 31, most32} {
			for _, r := range []api.Request{amend(3, number, 1), read(3, number, 0), redact(3, number, 1), history(5, number), seal(6, number), unseal(6, number), breakSeal(4, number, "x")} {
				u.refuses(api.NoRecord, r)
			}
		}
		for number := range records {
			u.must(history(5, number+1))
		}
		u.must(create(1))
	}
}

func TestMostRecords(t *testing.T) {
	u := begin(t, people)
	for number := uint32(1); number <= api.MaxRecords; number++ {
		a := u.do(create(1+number%3, text("n", long(int(number%60)))))
		if a.Code != api.Done || a.Record != number || a.Version != 1 {
			t.Fatalf("P11.2: record %d: %+v", number, a)
		}
	}
	u.refuses(api.TooMany, create(1))
	u.refuses(api.TooMany, create(1))
	u.must(redact(3, 256, 1), amend(3, 256, 1, n("Bea")))
	u.refuses(api.TooMany, create(1))
	for number := uint32(1); number < api.MaxRecords; number++ {
		u.tells(6, number, 1, text("n", long(int(number%60))))
	}
	u.tells(6, 256, 2, n("Bea"))
}

func TestMostVersions(t *testing.T) {
	u := begin(t, people)
	u.must(create(1, q(1)), create(1, q(1)))
	for v := uint32(1); v < api.MaxVersions; v++ {
		if a := u.do(amend(3, 2, v, q(float32(v+1)))); a.Code != api.Done || a.Version != v+1 || a.Record != 2 {
			t.Fatalf("P11.2: version %d: %+v", v+1, a)
		}
	}
	u.refuses(api.TooMany, amend(3, 2, 64, q(65)))
	u.refuses(api.TooMany, amend(3, 2, 64))
	u.must(redact(3, 2, 64), redact(3, 2, 5))
	u.refuses(api.TooMany, amend(3, 2, 64, q(65)))
	u.refuses(api.Stale, amend(3, 2, 63, q(65)))
	for v := uint32(1); v < api.MaxVersions; v++ {
		if v != 5 {
			u.tells(6, 2, v, q(float32(v)))
		}
	}
	u.tells(6, 1, 0, q(1))
	u.must(amend(3, 1, 1, q(2)))
}

// TestVersionsThatAreNot: at 0, at the last one, beside it, and far off.
func TestVersionsThatAreNot(t *testing.T) {
	u := begin(t, people)
	u.must(create(1, n("Ada")))
	for last := uint32(1); last <= 4; last++ {
		u.refuses(api.NoVersion, amend(3, 1, 0, q(1)))
		u.refuses(api.NoVersion, redact(3, 1, 0))
		for _, v := range []uint32{last + 1, last + 2, 64, 65, 256 + last, 1<<16 + last, 1<<31 + last, most32 - 1, most32} {
			u.refuses(api.NoVersion, amend(3, 1, v, q(1)))
			u.refuses(api.NoVersion, redact(3, 1, v))
			u.refuses(api.NoVersion, read(3, 1, v))
		}
		for v := uint32(1); v < last; v++ {
			u.refuses(api.Stale, amend(3, 1, v, q(1)))
		}
		u.must(read(3, 1, last), read(3, 1, 0), amend(3, 1, last, q(float32(last))))
	}
}

func TestReadAndRedact(t *testing.T) {
	u := begin(t, people)
	u.must(create(1, n("Ada")), amend(2, 1, 1, q(37)), amend(3, 1, 2, gone("name")))
	u.tells(6, 1, 0, q(37))
	u.tells(6, 1, 1, n("Ada"))
	u.tells(6, 1, 2, n("Ada"), q(37))
	u.tells(6, 1, 3, q(37))

	u.must(redact(6, 1, 2))
	u.refuses(api.IsRedacted, read(6, 1, 2))
	u.refuses(api.IsRedacted, redact(6, 1, 2))
	u.refuses(api.IsRedacted, redact(3, 1, 2))
	u.tells(6, 1, 0, q(37))
	u.tells(6, 1, 1, n("Ada"))

	u.must(redact(3, 1, 3))
	u.refuses(api.IsRedacted, read(6, 1, 0))
	u.refuses(api.IsRedacted, read(6, 1, 3))
	u.tells(6, 1, 1, n("Ada"))

	u.must(amend(3, 1, 3)) // nothing onto nothing
	u.tells(6, 1, 0)
	u.tells(6, 1, 4)
	u.refuses(api.IsRedacted, read(6, 1, 3))
	u.must(redact(3, 1, 4)) // of a version without fields
	u.refuses(api.IsRedacted, read(6, 1, 0))
}

func TestHistory(t *testing.T) {
	s := record.New(people)
	s.Apply(create(1, many(3, "a")...), 9)
	s.Apply(create(3), 70)
	s.Apply(amend(2, 1, 1, n("Ada"), q(37)), 0)
	s.Apply(read(6, 1, 0), 5)
	s.Apply(amend(3, 1, 2, gone("name")), most32)
	s.Apply(amend(3, 1, 2, gone("name")), 77) // refused
	s.Apply(amend(3, 1, 3, n("Bea")), 9)
	wants := func(what string, number uint32, want ...api.Summary) {
		t.Helper()
		a := s.Apply(history(5, number), 12)
		if !same(a, api.Answer{Record: number, Version: uint32(len(want)), History: want}) {
			t.Errorf("P11.2: %s: %+v, want %+v", what, a, want)
		}
	}
	wants("a history", 1, api.Summary{Author: 1, Event: 9, Fields: 3}, api.Summary{Author: 2, Event: 0, Fields: 5}, api.Summary{Author: 3, Event: most32, Fields: 4}, api.Summary{Author: 3, Event: 9, Fields: 5})
	s.Apply(redact(6, 1, 2), 13)
	s.Apply(redact(6, 1, 4), 14)
	wants("with versions that are redacted", 1, api.Summary{Author: 1, Event: 9, Fields: 3}, api.Summary{Author: 2, Redacted: true}, api.Summary{Author: 3, Event: most32, Fields: 4}, api.Summary{Author: 3, Event: 9, Redacted: true})
	s.Apply(amend(2, 1, 4, q(1)), 15)
	wants("with one behind them", 1, api.Summary{Author: 1, Event: 9, Fields: 3}, api.Summary{Author: 2, Redacted: true}, api.Summary{Author: 3, Event: most32, Fields: 4}, api.Summary{Author: 3, Event: 9, Redacted: true}, api.Summary{Author: 2, Event: 15, Fields: 1})
	wants("of one without fields", 2, api.Summary{Author: 3, Event: 70})
}

// TestSealAndBreak: who was granted is granted no more behind a seal, or behind its end.
func TestSealAndBreak(t *testing.T) {
	for _, first := range []api.Request{seal(6, 1), unseal(6, 1)} {
		for _, second := range []api.Request{seal(6, 1), unseal(6, 1)} {
			u := begin(t, people)
			u.must(create(1, n("Ada")), create(1, n("Bea")), first)
			u.refuses(api.NotAllowed, read(4, 1, 0))
			u.must(breakSeal(4, 1, "heart"))
			u.tells(4, 1, 1, n("Ada"))
			u.refuses(api.NotAllowed, read(4, 2, 0)) // another record is not opened by it
			u.must(amend(4, 1, 1, q(37)), history(4, 1))

			u.must(second)
			for _, r := range []api.Request{read(4, 1, 0), amend(4, 1, 2, q(38)), history(4, 1)} {
				u.refuses(api.NotAllowed, r)
			}
			u.must(breakSeal(4, 1, "again"))
			u.tells(4, 1, 0, n("Ada"), q(37))
		}
	}
}

func TestTheSeal(t *testing.T) {
	u := begin(t, people)
	u.must(create(1, n("Ada")), read(2, 1, 0), seal(6, 1))
	u.refuses(api.IsSealed, read(2, 1, 0))
	u.refuses(api.IsSealed, read(1, 1, 0))
	u.tells(3, 1, 0, n("Ada"))
	u.must(seal(6, 1))
	u.refuses(api.IsSealed, read(2, 1, 0))
	u.must(breakSeal(2, 1, "x"), read(2, 1, 0))
	u.refuses(api.IsSealed, read(1, 1, 0))
	u.must(unseal(6, 1), read(2, 1, 0), read(1, 1, 0), unseal(6, 1), read(2, 1, 0))
}

// TestBreakTwice: by one actor and by several, in any order.
func TestBreakTwice(t *testing.T) {
	staff := slices.Clone(people)
	for actor := uint32(20); actor < 26; actor++ {
		staff = append(staff, api.Staff{Actor: actor, Role: api.RoleNurse, Ward: 9})
	}
	u := begin(t, staff)
	u.must(create(1, n("Ada")), seal(6, 1))
	for _, actor := range []uint32{23, 4, 23, 25, 20, 4, 4, 21, 25} {
		u.must(breakSeal(actor, 1, "x"), read(actor, 1, 0))
		look(u.s, staff)
	}
	u.refuses(api.NotAllowed, read(22, 1, 0))
	u.refuses(api.NotAllowed, read(24, 1, 0))
	for _, actor := range []uint32{4, 20, 21, 23, 25} {
		u.tells(actor, 1, 0, n("Ada"))
	}
	u.must(seal(6, 1))
	for _, actor := range []uint32{4, 20, 21, 22, 23, 25} {
		u.refuses(api.NotAllowed, read(actor, 1, 0))
	}
}
