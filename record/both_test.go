package record_test

import (
	"math/rand/v2"
	"slices"
	"testing"

	"almoner/api"
	"almoner/policy"
	"almoner/record"
)

// town is a staff in which each role that works in a ward is in two of them.
var town = []api.Staff{
	{Actor: 1, Role: api.RoleClerk, Ward: 7},
	{Actor: 2, Role: api.RoleNurse, Ward: 7},
	{Actor: 3, Role: api.RoleDoctor, Ward: 7},
	{Actor: 4, Role: api.RoleDoctor, Ward: 8},
	{Actor: 5, Role: api.RoleAuditor},
	{Actor: 6, Role: api.RolePatient},
	{Actor: 7, Role: api.RolePatient, Ward: 7},
	{Actor: 8, Role: api.RoleNurse, Ward: 8},
	{Actor: 9, Role: api.RoleClerk, Ward: 8},
}

// draw makes requests, mostly such as have a chance.
type draw struct{ *rand.Rand }

func newDraw(seed uint64) draw { return draw{rand.New(rand.NewPCG(11, seed))} }

// rare is true now and then.
func (d draw) rare() bool { return d.IntN(20) == 0 }

func (d draw) number(most int) uint32 {
	if d.rare() {
		return []uint32{0, 64, 65, 255, 256, 257, 1 << 31, most32}[d.IntN(8)]
	}
	return uint32(d.IntN(most + 1))
}

// unit tells one of two that measure one thing, or another one.
func (d draw) unit() uint8 { return []uint8{11, 12, 11, 12, 11, 8}[d.IntN(6)] }

func (d draw) field(name string) api.Field {
	switch d.IntN(5) {
	case 0:
		return gone(name)
	case 1, 2:
		return quantity(name, float32(d.IntN(9)), d.unit())
	}
	return text(name, "xyz"[:d.IntN(4)])
}

// fields tells some of twelve names; at times many more.
func (d draw) fields() []api.Field {
	var l []api.Field
	if d.rare() {
		return many(1+d.IntN(32), string(rune('a'+d.IntN(12))))
	}
	for name := 'a'; name < 'm'; name++ {
		if d.IntN(6) == 0 {
			l = append(l, d.field(string(name)))
		}
	}
	return l
}

// request makes one that looks at what there is.
func (d draw) request(p *plain) api.Request {
	r := api.Request{Id: api.Id{Client: d.Uint32(), Number: d.Uint32()}, Actor: 1 + d.number(9), Op: uint8(1 + d.IntN(7))}
	if len(p.records) > 3 && r.Op == api.OpCreate && !d.rare() { // so that records have more than one version
		r.Op = api.OpAmend
	}
	r.Record = 1 + d.number(max(0, len(p.records)-1))
	last := 0
	if c := p.record(r.Record); c != nil {
		last = len(c.versions)
	}
	switch r.Op {
	case api.OpCreate:
		r.Record, r.Ward, r.Owner = 0, 7+uint32(d.IntN(2)), 6+uint32(d.IntN(2))
		r.Fields = slices.DeleteFunc(d.fields(), func(f api.Field) bool { return f.Kind == api.FieldGone })
	case api.OpAmend:
		r.Fields, r.Version = d.fields(), uint32(last)
		if d.IntN(5) == 0 {
			r.Version = d.number(last + 1)
		}
	case api.OpRead, api.OpRedact:
		r.Version = d.number(last + 1)
	case api.OpSeal:
		r.Version = uint32(d.IntN(2))
	case api.OpBreak:
		r.Reason = "xyz"[:d.IntN(4)]
	}
	if d.rare() {
		r = d.spoilt(r)
	}
	return r
}

// spoilt sets a part of a request to anything.
func (d draw) spoilt(r api.Request) api.Request {
	switch d.IntN(7) {
	case 0:
		r.Op = uint8(d.Uint32())
	case 1:
		r.Ward = d.number(9)
	case 2:
		r.Owner = d.number(9)
	case 3:
		r.Record = d.number(9)
	case 4:
		r.Version = d.number(9)
	case 5:
		r.Reason = long(d.IntN(3) * 40)
	case 6:
		r.Fields = append(d.fields(), d.fields()...)
	}
	return r
}

// TestRunsAreTheWords: drawn runs, in which each Op is answered each code that it may be.
func TestRunsAreTheWords(t *testing.T) {
	d := newDraw(1)
	seen := map[[2]uint8]int{}
	for range 400 {
		u := begin(t, town)
		for range 150 {
			r := d.request(u.p)
			seen[[2]uint8{r.Op, u.do(r).Code}]++
		}
		if t.Failed() {
			t.FailNow()
		}
	}
	for op, codes := range map[uint8][]uint8{
		api.OpCreate:  {api.Done, api.NoForm, api.NoActor, api.NotAllowed},
		api.OpAmend:   {api.Done, api.NoForm, api.NoActor, api.NoRecord, api.NotAllowed, api.IsSealed, api.NoVersion, api.Stale, api.TooMany, api.BadUnit},
		api.OpRead:    {api.Done, api.NoForm, api.NoActor, api.NoRecord, api.NotAllowed, api.IsSealed, api.NoVersion, api.IsRedacted},
		api.OpRedact:  {api.Done, api.NoForm, api.NoActor, api.NoRecord, api.NotAllowed, api.NoVersion, api.IsRedacted},
		api.OpHistory: {api.Done, api.NoForm, api.NoActor, api.NoRecord, api.NotAllowed, api.IsSealed},
		api.OpSeal:    {api.Done, api.NoForm, api.NoActor, api.NoRecord, api.NotAllowed},
		api.OpBreak:   {api.Done, api.NoForm, api.NoActor, api.NoRecord, api.NotAllowed},
	} {
		for _, code := range codes {
			if seen[[2]uint8{op, code}] < 5 {
				t.Errorf("the Op %d was answered %d %d times", op, code, seen[[2]uint8{op, code}])
			}
		}
	}
}

// TestAllShortScripts: all scripts of four out of a few requests, behind a record that was made.
func TestAllShortScripts(t *testing.T) {
	few := []api.Request{
		create(3, text("a", "1")), amend(3, 1, 1, text("a", "2")), amend(3, 1, 2, gone("a"), q(1)), amend(2, 1, 1, q(2)), amend(4, 1, 2, quantity("temp", 1, 8)),
		read(2, 1, 0), read(4, 1, 1), read(3, 1, 2), redact(3, 1, 1), redact(6, 1, 2), history(5, 1), seal(6, 1), unseal(6, 1), breakSeal(4, 1, "x"), breakSeal(2, 1, "y"),
	}
	for script := range len(few) * len(few) * len(few) * len(few) {
		u := begin(t, people)
		u.must(create(1, text("a", "0")))
		for left, i := script, 0; i < 4; left, i = left/len(few), i+1 {
			u.do(few[left%len(few)])
		}
		if t.Failed() {
			t.Fatalf("the script %d", script)
		}
	}
}

// run tells a run of requests, by the words.
func (d draw) run(n int) []api.Request {
	var l []api.Request
	p := &plain{staff: town}
	for i := range n {
		r := d.request(p)
		p.apply(r, uint32(i))
		l = append(l, r)
	}
	return l
}

// withoutPlaces tells answers whose histories have no places.
func withoutPlaces(l []api.Answer) []api.Answer {
	for _, a := range l {
		for i := range a.History {
			a.History[i].Event = 0
		}
	}
	return l
}

// TestRefusedLeftOut: the answers behind a request that is refused are as without it, but for the places in histories.
func TestRefusedLeftOut(t *testing.T) {
	d := newDraw(2)
	for range 60 {
		l := d.run(60)
		all := withoutPlaces(record.Answers(town, l))
		var done []api.Request
		var kept []api.Answer
		for i, a := range all {
			if a.Code == api.Done {
				done, kept = append(done, l[i]), append(kept, a)
				continue
			}
			less := withoutPlaces(record.Answers(town, slices.Delete(slices.Clone(l), i, i+1)))
			if !sameAll(less, slices.Delete(slices.Clone(all), i, i+1)) {
				t.Fatalf("P11.5: %+v is refused, and changes what is answered behind it", l[i])
			}
		}
		if !sameAll(withoutPlaces(record.Answers(town, done)), kept) {
			t.Fatalf("P11.5: without all that are refused: another answer")
		}
	}
}

// TestFieldsStay: what a version had when it was made is read later, as long as it is not redacted.
func TestFieldsStay(t *testing.T) {
	type key struct{ number, version uint32 }
	d := newDraw(3)
	reads := 0
	for range 400 {
		s, p := record.New(town), &plain{staff: town}
		made := map[key][]api.Field{}
		for i := range uint32(80) {
			r := d.request(p)
			a := s.Apply(r, i)
			p.apply(r, i)
			if a.Code != api.Done {
				continue
			}
			switch k := (key{a.Record, a.Version}); r.Op {
			case api.OpCreate, api.OpAmend:
				made[k] = s.Apply(read(p.record(a.Record).owner, a.Record, a.Version), i).Fields
			case api.OpRedact:
				delete(made, k)
			}
		}
		for k, want := range made {
			a := s.Apply(read(p.record(k.number).owner, k.number, k.version), 0)
			if a.Code != api.Done || !sameFields(a.Fields, want) {
				t.Fatalf("P11.5: version %d of record %d: %+v, and was made with %+v", k.version, k.number, a, want)
			}
			reads++
		}
	}
	if reads < 1000 {
		t.Error("too few were read again:", reads)
	}
}

// TestCopiesGoTheirOwnWays: a state and its copy, each of which has its own requests, in turns.
func TestCopiesGoTheirOwnWays(t *testing.T) {
	d := newDraw(4)
	for range 150 {
		u := begin(t, town)
		for range d.IntN(60) {
			u.do(d.request(u.p))
		}
		v := &run{t: t, s: u.s.Copy(), p: u.p.copied(), place: u.place}
		if !sameAll(look(u.s, town), look(v.s, town)) || u.s.Records() != v.s.Records() {
			t.Fatal("P11.1: a copy is not alike")
		}
		w := &run{t: t, s: v.s.Copy(), p: v.p.copied(), place: 77} // a copy's copy, with nothing done to it
		for range 60 {
			turn := []*run{u, v}[d.IntN(2)]
			turn.do(d.request(turn.p))
		}
		for range 20 {
			w.do(d.request(w.p))
		}
		if t.Failed() {
			t.FailNow()
		}
	}
}

// TestNobodyReadsUnseen: an answer tells fields just where policy.Read lets its actor, at that moment, and to one who has asked for them.
func TestNobodyReadsUnseen(t *testing.T) {
	d := newDraw(5)
	told := 0
	for range 300 {
		s, p := record.New(town), &plain{staff: town}
		for i := range uint32(100) {
			r := d.request(p)
			may := uint8(api.NoRecord)
			if c := p.record(r.Record); c != nil {
				may = policy.Read(town, c.sheet(), r.Actor)
			}
			a := s.Apply(r, i)
			if len(a.Fields) > 0 {
				told++
				if may != api.Done || r.Op != api.OpRead || a.Code != api.Done {
					t.Fatalf("P11.5, T7: %+v tells fields: %+v", r, a)
				}
			}
			if len(a.History) > 0 && (r.Op != api.OpHistory || a.Code != api.Done) {
				t.Fatalf("P11.2: %+v tells a history: %+v", r, a)
			}
			p.apply(r, i)
		}
	}
	if told < 500 {
		t.Error("fields were told too seldom:", told)
	}
}

// any1 tells a request of any parts.
func (d draw) any1() api.Request {
	r := d.request(&plain{staff: town})
	for range d.IntN(4) {
		r = d.spoilt(r)
	}
	for i := range r.Fields {
		if f := &r.Fields[i]; d.IntN(8) == 0 {
			switch d.IntN(5) {
			case 0:
				f.Name = long(d.IntN(70))
			case 1:
				f.Kind = uint8(d.Uint32())
			case 2:
				f.Text = long(d.IntN(70))
			case 3:
				f.Value = float(d.Uint32() | 0x7f800000)
			case 4:
				f.Unit = uint8(d.IntN(30))
			}
		}
	}
	return r
}

// TestAnyRequests: requests, staffs, answers and widths of any kind, without a panic.
func TestAnyRequests(t *testing.T) {
	d := newDraw(6)
	formedOnes := 0
	for range 150 {
		var staff []api.Staff
		for range d.IntN(12) {
			staff = append(staff, api.Staff{Actor: d.number(9), Role: d.number(6), Ward: 7 + d.number(1)})
		}
		u := begin(t, staff)
		for range 150 {
			r := d.any1()
			a := u.do(r)
			hasForm(t, "any", r, formed(r))
			if formed(r) {
				formedOnes++
			}
			a.Id, a.Code = r.Id, uint8(d.IntN(14))
			width, place := d.IntN(36), d.number(5000)
			if width < 1 || width > 32 || !formed(r) || a.Code > api.BadUnit {
				noEvent(t, "any", api.EARG, width, place, r, a)
			} else if place >= 4096 {
				noEvent(t, "any", api.ELIMIT, width, place, r, a)
			} else {
				isEvent(t, width, place, r, a)
			}
		}
		if t.Failed() {
			t.FailNow()
		}
	}
	if formedOnes < 2000 || formedOnes > 20000 {
		t.Error("too few, or too many, had a form:", formedOnes)
	}
}

// TestToldAgain: what is answered hangs on the staff and the requests alone.
func TestToldAgain(t *testing.T) {
	d := newDraw(7)
	for range 20 {
		l := d.run(100)
		first := record.Answers(town, l)
		record.Answers(people, d.run(50))
		if !sameAll(record.Answers(town, l), first) {
			t.Fatal("R5: the same requests are answered otherwise")
		}
	}
}
