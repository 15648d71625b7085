package policy_test

import (
	"fmt"
	"testing"

	"almoner/api"
	"almoner/policy"
)

func TestExamples(t *testing.T) {
	for _, c := range []struct {
		actor, ward, owner uint32
		want               byte
	}{{1, 7, 6, '+'}, {4, 7, 6, '-'}, {1, 7, 3, '?'}, {9, 7, 6, '?'}, {6, 0, 6, '-'}} {
		wants(t, fmt.Sprintf("P10.2: Create(%d, %d, %d)", c.actor, c.ward, c.owner), policy.Create(people, c.actor, c.ward, c.owner), c.want)
	}
	for i := range uint32(6) {
		wants(t, fmt.Sprintf("P10.3: Read of it by %d", i+1), policy.Read(people, open, i+1), "+++--+"[i])
		wants(t, fmt.Sprintf("P10.3: Read of s by %d", i+1), policy.Read(people, sealed, i+1), "ss+--+"[i])
	}
	wants(t, "P10.3: Read of g by 4", policy.Read(people, opened, 4), '+')
	wants(t, "P10.3: History of g by 5", policy.History(people, opened, 5), '+')
	wants(t, "P10.4: Amend of g by 4", policy.Amend(people, opened, 4, nil), '+')
	wants(t, "P10.4: Amend of g by 6", policy.Amend(people, opened, 6, nil), '-')
	wants(t, "P10.4: Amend of it by 1, a text", policy.Amend(people, open, 1, []api.Field{text}), '+')
	wants(t, "P10.4: Amend of it by 1, a quantity", policy.Amend(people, open, 1, []api.Field{quantity}), '-')
	wants(t, "P10.4: Amend of it by 1, one that is taken away", policy.Amend(people, open, 1, []api.Field{gone}), '-')
	wants(t, "P10.4: Amend of it by 1, none", policy.Amend(people, open, 1, nil), '+')
	wants(t, "P10.5: Redact of s by 3", policy.Redact(people, sealed, 3), '+')
	wants(t, "P10.5: Redact of s by 4", policy.Redact(people, sealed, 4), '-')
	wants(t, "P10.5: Redact of s by 6", policy.Redact(people, sealed, 6), '+')
	wants(t, "P10.5: Seal by 3", policy.Seal(people, open, 3), '-')
	wants(t, "P10.5: Seal by 6", policy.Seal(people, open, 6), '+')
	wants(t, "P10.6: Break of s by 4", policy.Break(people, sealed, 4, "heart"), '+')
	wants(t, "P10.6: Break of s by 4, with nothing", policy.Break(people, sealed, 4, ""), '-')
	wants(t, "P10.6: Break of s by 1", policy.Break(people, sealed, 1, "heart"), '-')
}

// crowd tells so many people, rising from a number on.
func crowd(n int, from uint32) []api.Staff {
	var l []api.Staff
	for i := range uint32(n) {
		l = append(l, api.Staff{Actor: from + i, Role: 1 + i%5, Ward: i})
	}
	return l
}

func TestValid(t *testing.T) {
	const last = 1<<32 - 1
	for _, c := range []struct {
		what  string
		staff []api.Staff
		want  bool
	}{
		{"no staff", nil, true},
		{"no staff, a list", []api.Staff{}, true},
		{"the examples'", people, true},
		{"one less than MaxStaff", crowd(api.MaxStaff-1, 1), true},
		{"MaxStaff", crowd(api.MaxStaff, 1), true},
		{"one more than MaxStaff", crowd(api.MaxStaff+1, 1), false},
		{"MaxStaff, up to the last number", crowd(api.MaxStaff, last-api.MaxStaff+1), true},
		{"numbers with gaps", []api.Staff{{Actor: 1, Role: 1}, {Actor: 9, Role: 1}, {Actor: last, Role: 1}}, true},
		{"numbers that sink", []api.Staff{{Actor: 2, Role: 1}, {Actor: 1, Role: 1}}, false},
		{"numbers that sink at the end", []api.Staff{{Actor: 1, Role: 1}, {Actor: 3, Role: 1}, {Actor: 2, Role: 1}}, false},
		{"numbers that sink at the beginning", []api.Staff{{Actor: 2, Role: 1}, {Actor: 1, Role: 1}, {Actor: 3, Role: 1}}, false},
		{"numbers that come round", []api.Staff{{Actor: last, Role: 1}, {Actor: 0, Role: 1}}, false},
		{"numbers that rise as those with a sign", []api.Staff{{Actor: last, Role: 1}, {Actor: 1, Role: 1}}, false},
		{"one number twice", []api.Staff{{Actor: 2, Role: 1}, {Actor: 2, Role: 1}}, false},
		{"one number twice, of two roles", []api.Staff{{Actor: 1, Role: 1}, {Actor: 2, Role: 1}, {Actor: 2, Role: 2, Ward: 1}}, false},
		{"one number twice, with one between", []api.Staff{{Actor: 1, Role: 1}, {Actor: 2, Role: 1}, {Actor: 1, Role: 1}}, false},
		{"the last number twice", []api.Staff{{Actor: last, Role: 1}, {Actor: last, Role: 1}}, false},
		{"the actor 0", []api.Staff{{Actor: 0, Role: 1}}, false},
		{"the actor 0 ahead of others", []api.Staff{{Actor: 0, Role: 1}, {Actor: 1, Role: 1}}, false},
		{"the actor 0 behind others", []api.Staff{{Actor: 1, Role: 1}, {Actor: 0, Role: 1}}, false},
		{"the ward 0", []api.Staff{{Actor: 1, Role: 1, Ward: 0}}, true},
		{"the last ward", []api.Staff{{Actor: 1, Role: 1, Ward: last}}, true},
		{"one ward for all", []api.Staff{{Actor: 1, Role: 1, Ward: 3}, {Actor: 2, Role: 1, Ward: 3}}, true},
	} {
		if got := policy.Valid(c.staff); got != c.want {
			t.Errorf("P10.1: Valid of %s: %v", c.what, got)
		}
	}
}

// TestValidRoles has each role once as the first one, once between and once as the last.
func TestValidRoles(t *testing.T) {
	for _, role := range append([]uint32{api.RoleClerk - 1, api.RolePatient + 1}, everyRole...) {
		want := role >= api.RoleClerk && role <= api.RolePatient
		for at := range 3 {
			l := crowd(3, 1)
			l[at].Role = role
			if got := policy.Valid(l); got != want {
				t.Errorf("P10.1: Valid with the role %d at %d: %v", role, at, got)
			}
		}
	}
}

func TestFind(t *testing.T) {
	const last = 1<<32 - 1
	any := []api.Staff{{Actor: 9, Role: 1, Ward: 3}, {Actor: 0, Role: 77, Ward: 4}, {Actor: last, Role: 3, Ward: last}, {Actor: 9, Role: 2, Ward: 5}, {Actor: 4, Role: 5}, {Actor: 0, Role: 1}}
	for _, c := range []struct {
		what  string
		staff []api.Staff
		actor uint32
		want  int // its place; -1 for nobody
	}{
		{"among nobody", nil, 1, -1},
		{"0 among nobody", nil, 0, -1},
		{"the first", people, 1, 0},
		{"one between", people, 4, 3},
		{"the last", people, 6, 5},
		{"one below the first", people, 0, -1},
		{"one above the last", people, 7, -1},
		{"the last number of all", people, last, -1},
		{"one that differs by 2^8", people, 256 + 1, -1},
		{"one that differs by 2^16", people, 1<<16 + 1, -1},
		{"one that stands twice", any, 9, 0},
		{"0 that stands twice", any, 0, 1},
		{"behind a greater one", any, 4, 4},
		{"the greatest", any, last, 2},
		{"nobody in a list that does not rise", any, 5, -1},
		{"a gap of a list that does not rise", any, 1, -1},
		{"the last of MaxStaff and more", crowd(200, 1), 200, 199},
	} {
		p, ok := policy.Find(c.staff, c.actor)
		if c.want < 0 && (ok || p != api.Staff{}) || c.want >= 0 && (!ok || p != c.staff[c.want]) {
			t.Errorf("P10.1: Find of %s answered %v, %v", c.what, p, ok)
		}
	}
}

// TestNoActorAheadOfAllElse asks for somebody who is nobody, whatever else would be refused, or would let him in.
func TestNoActorAheadOfAllElse(t *testing.T) {
	for _, actor := range []uint32{0, 7, 9, 257, 1<<32 - 1} {
		for _, s := range append(states(7, actor, actor), states(7, 6, actor)...) {
			for i, code := range everyCall(people, s, actor, []api.Field{quantity, text}, "why") {
				wants(t, fmt.Sprintf("P10.1: call %d of %+v by %d, who is nobody", i, s, actor), code, '?')
			}
			for i, code := range everyCall(people, s, actor, nil, "") {
				wants(t, fmt.Sprintf("P10.1: call %d of %+v by %d, who is nobody, with nothing", i, s, actor), code, '?')
			}
			for i, code := range everyCall(nil, s, actor, nil, "why") {
				wants(t, fmt.Sprintf("P10.1: call %d of %+v by %d, with no staff", i, s, actor), code, '?')
			}
		}
	}
}

// TestTheFirstOfANumberActs: of two people of one number the first one is meant, as the actor and as the owner.
func TestTheFirstOfANumberActs(t *testing.T) {
	doctor, patient := api.Staff{Actor: 3, Role: api.RoleDoctor, Ward: 7}, api.Staff{Actor: 3, Role: api.RolePatient, Ward: 8}
	clerk := api.Staff{Actor: 1, Role: api.RoleClerk, Ward: 7}
	first, last := []api.Staff{doctor, patient, clerk}, []api.Staff{clerk, patient, doctor}
	wants(t, "P10.1: Read by the doctor of that number", policy.Read(first, open, 3), '+')
	wants(t, "P10.1: Read by the patient of that number", policy.Read(last, open, 3), '-')
	wants(t, "P10.1: Create for the doctor of that number", policy.Create(first, 1, 7, 3), '?')
	wants(t, "P10.1: Create for the patient of that number", policy.Create(last, 1, 7, 3), '+')
}

func TestCreate(t *testing.T) {
	for _, role := range everyRole {
		want := byte('-')
		if role == api.RoleClerk || role == api.RoleNurse || role == api.RoleDoctor {
			want = '+'
		}
		staff := alone(20, role, 7) // 19 is a patient, 21 an auditor
		what := fmt.Sprintf("P10.2: Create by the role %d", role)
		wants(t, what+" in the ward", policy.Create(staff, 20, 7, 19), want)
		for _, ward := range []uint32{6, 8, 0, 7 + 256, 1<<32 - 1} {
			wants(t, what+" in another ward", policy.Create(staff, 20, ward, 19), '-')
		}
		wants(t, what+" for nobody", policy.Create(staff, 20, 7, 18), '?')
		wants(t, what+" for nobody, in another ward", policy.Create(staff, 20, 8, 18), '?')
		wants(t, what+" for the actor 0", policy.Create(staff, 20, 7, 0), '?')
		wants(t, what+" for no patient", policy.Create(staff, 20, 7, 21), '?')
		wants(t, what+" for no patient, in another ward", policy.Create(staff, 20, 8, 21), '?')
		want = '?'
		if role == api.RolePatient {
			want = '-'
		}
		wants(t, what+" for himself", policy.Create(staff, 20, 7, 20), want)
		wants(t, what+" for himself, in another ward", policy.Create(staff, 20, 8, 20), want)
	}
}

// TestCreateForEachRole: of all roles an owner is a patient alone.
func TestCreateForEachRole(t *testing.T) {
	for _, role := range everyRole {
		want := byte('?')
		if role == api.RolePatient {
			want = '+'
		}
		for _, ward := range []uint32{7, 8} { // the owner's is not asked
			staff := []api.Staff{{Actor: 1, Role: api.RoleNurse, Ward: 7}, {Actor: 2, Role: role, Ward: ward}}
			wants(t, fmt.Sprintf("P10.2: Create for the role %d of ward %d", role, ward), policy.Create(staff, 1, 7, 2), want)
		}
	}
}

func TestRedact(t *testing.T) {
	for _, role := range everyRole {
		staff := alone(20, role, 7)
		for i, s := range states(7, 19, 20) {
			want := byte('-')
			if i >= 4 && role == api.RoleDoctor { // near
				want = '+'
			}
			wants(t, fmt.Sprintf("P10.5: Redact of %+v by the role %d", s, role), policy.Redact(staff, s, 20), want)
			s.Owner = 20
			wants(t, fmt.Sprintf("P10.5: Redact of %+v by its owner, of the role %d", s, role), policy.Redact(staff, s, 20), '+')
		}
	}
}

func TestSeal(t *testing.T) {
	for _, role := range everyRole {
		staff := alone(20, role, 7)
		for _, s := range states(7, 19, 20) {
			wants(t, fmt.Sprintf("P10.5: Seal of %+v by the role %d", s, role), policy.Seal(staff, s, 20), '-')
			s.Owner = 20
			wants(t, fmt.Sprintf("P10.5: Seal of %+v by its owner, of the role %d", s, role), policy.Seal(staff, s, 20), '+')
		}
	}
}

// TestBreak: the sheet is not looked at.
func TestBreak(t *testing.T) {
	for _, role := range everyRole {
		staff := alone(20, role, 7)
		for _, s := range append(states(7, 19, 20), states(7, 20, 20)...) {
			want := byte('-')
			if role == api.RoleDoctor || role == api.RoleNurse {
				want = '+'
			}
			what := fmt.Sprintf("P10.6: Break of %+v by the role %d", s, role)
			for _, reason := range []string{"heart", " ", "\x00", "\xff", string(make([]byte, 1000))} {
				wants(t, what, policy.Break(staff, s, 20, reason), want)
			}
			wants(t, what+" without a reason", policy.Break(staff, s, 20, ""), '-')
		}
	}
}

// TestNumbersAtTheirEnds: wards and numbers of 0 and of 2^32 - 1 are as others.
func TestNumbersAtTheirEnds(t *testing.T) {
	ends := []uint32{0, 1, 1<<31 - 1, 1 << 31, 1<<32 - 1}
	for _, actor := range ends {
		for _, ward := range ends {
			for _, other := range ends {
				near, mine := byte('-'), byte('-')
				if ward == other {
					near = '+'
				}
				if actor == other {
					mine = '+'
				}
				staff := []api.Staff{{Actor: 77, Role: api.RolePatient}, {Actor: actor, Role: api.RoleDoctor, Ward: ward}}
				what := fmt.Sprintf("R6: the actor %d of ward %d, and %d", actor, ward, other)
				wants(t, what+": Create", policy.Create(staff, actor, other, 77), near)
				wants(t, what+": Read", policy.Read(staff, policy.Sheet{Ward: other, Owner: 77, Sealed: true}, actor), near)
				wants(t, what+": Redact", policy.Redact(staff, policy.Sheet{Ward: other, Owner: 77}, actor), near)
				wants(t, what+": Seal", policy.Seal(staff, policy.Sheet{Ward: ward, Owner: other}, actor), mine)
				wants(t, what+": Read, granted", policy.Read(staff, policy.Sheet{Ward: ward ^ 1, Owner: 77, Granted: []uint32{other}}, actor), mine)
				wants(t, what+": Read of his own", policy.Read(staff, policy.Sheet{Ward: ward ^ 1, Owner: other}, actor), mine)
			}
		}
	}
}
