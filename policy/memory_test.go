package policy_test

import (
	"slices"
	"testing"

	"almoner/api"
	"almoner/policy"
)

// roomy tells a copy of a list with spare room that is written full of something.
func roomy[T any](l []T, spare T) []T {
	all := append(slices.Clone(l), slices.Repeat([]T{spare}, 5)...)
	return all[:len(l)]
}

// TestWhatIsHandedInIsNotChangedAndNotKept asks all calls, looks at the lists, and asks again with lists that were written over.
func TestWhatIsHandedInIsNotChangedAndNotKept(t *testing.T) {
	spareStaff, spareField := api.Staff{Actor: 4, Role: 3, Ward: 7}, api.Field{Name: "z", Kind: api.FieldGone}
	mixed := []api.Staff{town[5], town[2], town[0], town[7], town[2], town[1]}
	fields := []api.Field{text, gone, quantity, text}
	for _, staff := range [][]api.Staff{town, mixed, nil} {
		for actor := range uint32(10) {
			s := policy.Sheet{Ward: 7, Owner: 8, Sealed: true, Granted: roomy([]uint32{6, 2, 9, 2}, 5)}
			handed, handedFields := roomy(staff, spareStaff), roomy(fields, spareField)
			want := byWords(staff, s, actor, fields, "x")
			if got := everyCall(handed, s, actor, handedFields, "x"); !slices.Equal(got, want) {
				t.Errorf("R4: by %d: %d, want %d", actor, got, want)
			}
			policy.Valid(handed)
			policy.Find(handed, actor)
			if !slices.Equal(handed[:len(staff)+5], roomy(staff, spareStaff)[:len(staff)+5]) {
				t.Errorf("R4: the staff is changed: %v", handed[:len(staff)+5])
			}
			if !slices.Equal(s.Granted[:9], []uint32{6, 2, 9, 2, 5, 5, 5, 5, 5}) {
				t.Errorf("R4: the list of granted actors is changed: %v", s.Granted[:9])
			}
			if !slices.Equal(handedFields[:9], roomy(fields, spareField)[:9]) {
				t.Errorf("R4: the fields are changed: %v", handedFields[:9])
			}
			clear(handed[:cap(handed)])
			clear(s.Granted[:cap(s.Granted)])
			clear(handedFields[:cap(handedFields)])
			again := policy.Sheet{Ward: 7, Owner: 8, Sealed: true, Granted: []uint32{6, 2, 9, 2}}
			if got := everyCall(staff, again, actor, fields, "x"); !slices.Equal(got, want) {
				t.Errorf("R4, R5: by %d, behind lists that were written over: %d, want %d", actor, got, want)
			}
		}
	}
}

// TestSpareRoomIsNotLookedAt: those behind a list's end are none of it.
func TestSpareRoomIsNotLookedAt(t *testing.T) {
	wants(t, "R5: somebody behind the staff's end", policy.Read(people[:2], open, 3), '?')
	wants(t, "R5: an owner behind the staff's end", policy.Create(people[:5], 1, 7, 6), '?')
	s := policy.Sheet{Ward: 7, Owner: 6, Sealed: true, Granted: []uint32{1, 4}[:1]}
	wants(t, "R5: somebody behind the end of those who are granted", policy.Read(people, s, 4), '-')
	wants(t, "R5: a field behind the end", policy.Amend(people, open, 1, []api.Field{text, gone}[:1]), '+')
	if !policy.Valid([]api.Staff{{Actor: 1, Role: 1}, {}}[:1]) {
		t.Error("R5: Valid looks behind the end")
	}
}

// TestWhatIsFoundIsACopy: a person that was told stays as it was.
func TestWhatIsFoundIsACopy(t *testing.T) {
	staff := slices.Clone(people)
	p, _ := policy.Find(staff, 3)
	clear(staff)
	if p != people[2] {
		t.Errorf("R4: what was found is changed: %v", p)
	}
}
