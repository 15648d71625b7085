package policy_test

import (
	"slices"
	"testing"

	"almoner/api"
	"almoner/policy"
)

// The staff and the sheets of the chapter's examples.
var (
	people = []api.Staff{
		{Actor: 1, Role: api.RoleClerk, Ward: 7},
		{Actor: 2, Role: api.RoleNurse, Ward: 7},
		{Actor: 3, Role: api.RoleDoctor, Ward: 7},
		{Actor: 4, Role: api.RoleDoctor, Ward: 8},
		{Actor: 5, Role: api.RoleAuditor},
		{Actor: 6, Role: api.RolePatient},
	}
	open      = policy.Sheet{Ward: 7, Owner: 6}
	sealed    = policy.Sheet{Ward: 7, Owner: 6, Sealed: true}
	opened    = policy.Sheet{Ward: 7, Owner: 6, Sealed: true, Granted: []uint32{4}}
	text      = api.Field{Name: "a", Kind: api.FieldText, Text: "x"}
	quantity  = api.Field{Name: "b", Kind: api.FieldQuantity, Value: 1, Unit: 1}
	gone      = api.Field{Name: "c", Kind: api.FieldGone}
	noSuch    = []uint32{0, api.RolePatient + 1, 255, 256 + api.RoleDoctor, 1<<16 + api.RoleNurse, 1<<32 - 1}
	everyRole = append([]uint32{api.RoleClerk, api.RoleNurse, api.RoleDoctor, api.RoleAuditor, api.RolePatient}, noSuch...)
)

// codes are how a test writes them.
var codes = map[byte]uint8{'+': api.Done, '?': api.NoActor, '-': api.NotAllowed, 's': api.IsSealed}

// wants fails, if a code is another one than the one that is written.
func wants(t *testing.T, what string, got uint8, want byte) {
	t.Helper()
	code, ok := codes[want]
	if !ok {
		t.Fatalf("%s: no code is written %c", what, want)
	}
	if got != code {
		t.Errorf("%s: answered %d, want %d", what, got, code)
	}
}

// alone tells a staff of somebody of a role, and two others: one ahead and one behind.
func alone(actor, role, ward uint32) []api.Staff {
	return []api.Staff{
		{Actor: actor - 1, Role: api.RolePatient, Ward: ward},
		{Actor: actor, Role: role, Ward: ward},
		{Actor: actor + 1, Role: api.RoleAuditor, Ward: ward},
	}
}

// states tells the eight sheets that one who is not their owner may meet, of a ward that is not his, then of his: open, open and granted, sealed, sealed and granted.
func states(ward, owner, actor uint32) []policy.Sheet {
	var l []policy.Sheet
	for _, w := range []uint32{ward + 1, ward} {
		for _, sealed := range []bool{false, true} {
			for _, g := range [][]uint32{nil, {actor}} {
				l = append(l, policy.Sheet{Ward: w, Owner: owner, Sealed: sealed, Granted: g})
			}
		}
	}
	return l
}

// readers tells who may read each of the states, by role.
func readers(role uint32) string {
	switch role {
	case api.RoleClerk:
		return "----" + "++ss"
	case api.RoleNurse:
		return "-+-+" + "++s+"
	case api.RoleDoctor:
		return "-+-+" + "++++"
	}
	return "----" + "----"
}

// everyCall asks all calls of one actor, with arguments that keep nobody out but by what he is.
func everyCall(staff []api.Staff, s policy.Sheet, actor uint32, fields []api.Field, reason string) []uint8 {
	return []uint8{
		policy.Create(staff, actor, s.Ward, s.Owner),
		policy.Read(staff, s, actor),
		policy.History(staff, s, actor),
		policy.Amend(staff, s, actor, fields),
		policy.Redact(staff, s, actor),
		policy.Seal(staff, s, actor),
		policy.Break(staff, s, actor, reason),
	}
}

// byWords tells the same by the chapter's words.
func byWords(staff []api.Staff, s policy.Sheet, actor uint32, fields []api.Field, reason string) []uint8 {
	p := plain(staff)
	return []uint8{
		p.create(actor, s.Ward, s.Owner),
		p.read(s, actor),
		p.history(s, actor),
		p.amend(s, actor, fields),
		p.redact(s, actor),
		p.seal(s, actor),
		p.breaks(actor, reason),
	}
}

// isTheWords fails, if a call answers otherwise than the words.
func isTheWords(t *testing.T, staff []api.Staff, s policy.Sheet, actor uint32, fields []api.Field, reason string) {
	t.Helper()
	got, want := everyCall(staff, s, actor, fields, reason), byWords(staff, s, actor, fields, reason)
	if !slices.Equal(got, want) {
		t.Fatalf("P10.1 to P10.6: staff %v, %+v, actor %d, fields %+v, reason %q: Create, Read, History, Amend, Redact, Seal, Break answered %d, want %d", staff, s, actor, fields, reason, got, want)
	}
}

// turned tells a list the other way round.
func turned[T any](l []T) []T {
	l = slices.Clone(l)
	slices.Reverse(l)
	return l
}
