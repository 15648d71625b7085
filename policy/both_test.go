package policy_test

import (
	"math/rand"
	"slices"
	"strings"
	"testing"

	"almoner/api"
	"almoner/policy"
)

// town is a staff in which each role that works in a ward is in two of them.
var town = []api.Staff{
	{Actor: 1, Role: api.RoleClerk, Ward: 7},
	{Actor: 2, Role: api.RoleNurse, Ward: 7},
	{Actor: 3, Role: api.RoleDoctor, Ward: 7},
	{Actor: 4, Role: api.RoleClerk, Ward: 8},
	{Actor: 5, Role: api.RoleNurse, Ward: 8},
	{Actor: 6, Role: api.RoleDoctor, Ward: 8},
	{Actor: 7, Role: api.RoleAuditor, Ward: 7},
	{Actor: 8, Role: api.RolePatient, Ward: 8},
}

// everyChange is a list of fields of each kind that Amend tells apart.
var everyChange = [][]api.Field{nil, {text}, {quantity}, {gone, text}}

// eachSheet goes through all sheets of the town: its wards and another one, each owner and one who is nobody, and each set of people who are granted.
func eachSheet(do func(s policy.Sheet)) {
	for set := range 1 << len(town) {
		var list []uint32
		for i := range town {
			if set>>i&1 == 1 {
				list = append(list, town[i].Actor)
			}
		}
		for _, ward := range []uint32{7, 8, 9} {
			for owner := range uint32(len(town) + 2) {
				do(policy.Sheet{Ward: ward, Owner: owner, Granted: list})
				do(policy.Sheet{Ward: ward, Owner: owner, Sealed: true, Granted: list})
			}
		}
	}
}

func TestTheTownIsTheWords(t *testing.T) {
	eachSheet(func(s policy.Sheet) {
		for actor := range uint32(len(town) + 2) {
			for i, fields := range everyChange {
				isTheWords(t, town, s, actor, fields, "x"[:i&1])
			}
		}
	})
}

func TestWhoMayAmendMayRead(t *testing.T) {
	eachSheet(func(s policy.Sheet) {
		for actor := range uint32(len(town) + 2) {
			for _, fields := range everyChange {
				if policy.Amend(town, s, actor, fields) == api.Done && policy.Read(town, s, actor) != api.Done {
					t.Fatalf("P10.7: %d may amend %+v and not read it", actor, s)
				}
			}
		}
	})
}

func TestASealLetsNobodyIn(t *testing.T) {
	eachSheet(func(s policy.Sheet) {
		shut, free := s, s
		shut.Sealed, free.Sealed = true, false
		for actor := range uint32(len(town) + 2) {
			if policy.Read(town, shut, actor) == api.Done && policy.Read(town, free, actor) != api.Done {
				t.Fatalf("P10.7: %d may read %+v just if it is sealed", actor, s)
			}
			if policy.Read(town, free, actor) == api.IsSealed {
				t.Fatalf("P10.3: to %d %+v is told to be sealed", actor, s)
			}
		}
	})
}

func TestOneMoreGranted(t *testing.T) {
	eachSheet(func(s policy.Sheet) {
		for more := range uint32(len(town) + 2) {
			wider := s
			wider.Granted = append(slices.Clone(s.Granted), more)
			for actor := range uint32(len(town) + 2) {
				was, is := policy.Read(town, s, actor), policy.Read(town, wider, actor)
				if was == api.Done && is != api.Done {
					t.Fatalf("P10.7: %d could read %+v, and can't with %d granted", actor, s, more)
				}
				if was != is && actor != more {
					t.Fatalf("P10.7: %d was answered %d for %+v, and is answered %d with %d granted", actor, was, s, is, more)
				}
			}
		}
	})
}

// TestTheOrderIsNotSeen: of the staff, of the granted actors and of the fields.
func TestTheOrderIsNotSeen(t *testing.T) {
	r := rand.New(rand.NewSource(10))
	mixed := slices.Clone(town)
	fields := []api.Field{text, text, gone, quantity}
	eachSheet(func(s policy.Sheet) {
		back := s
		back.Granted = turned(s.Granted)
		twice := s
		twice.Granted = append(turned(s.Granted), s.Granted...)
		r.Shuffle(len(mixed), func(i, j int) { mixed[i], mixed[j] = mixed[j], mixed[i] })
		for actor := range uint32(len(town) + 2) {
			n := r.Intn(len(fields) + 1)
			want := everyCall(town, s, actor, fields[:n], "x")
			for _, other := range [][]uint8{
				everyCall(mixed, s, actor, fields[:n], "x"),
				everyCall(turned(town), s, actor, turned(fields[:n]), "x"),
				everyCall(town, back, actor, fields[:n], "x"),
				everyCall(town, twice, actor, fields[:n], "x"),
			} {
				if !slices.Equal(other, want) {
					t.Fatalf("P10.7: %+v, %d: answered %d, and in another order %d", s, actor, want, other)
				}
			}
		}
	})
}

// TestAllShortStaffs: Valid, Find and all calls, of all lists of up to three people of a few numbers and roles.
func TestAllShortStaffs(t *testing.T) {
	var choose func(staff []api.Staff)
	choose = func(staff []api.Staff) {
		if policy.Valid(staff) != plain(staff).valid() {
			t.Fatalf("P10.1: Valid(%v): %v", staff, policy.Valid(staff))
		}
		for actor := range uint32(4) {
			at := plain(staff).first(actor)
			p, ok := policy.Find(staff, actor)
			if ok != (at >= 0) || ok && p != staff[at] || !ok && p != (api.Staff{}) {
				t.Fatalf("P10.1: Find(%v, %d): %v, %v", staff, actor, p, ok)
			}
			isTheWords(t, staff, policy.Sheet{Ward: 1, Owner: 2, Sealed: true}, actor, nil, "x")
		}
		if len(staff) == 3 {
			return
		}
		for actor := range uint32(3) {
			for role := range uint32(7) {
				choose(append(staff, api.Staff{Actor: actor, Role: role, Ward: role & 1}))
			}
		}
	}
	choose(nil)
}

// odd tells a number, mostly a small one, so that they are met again.
func odd(r *rand.Rand) uint32 {
	switch r.Intn(12) {
	case 0:
		return 1<<32 - 1 - uint32(r.Intn(2))
	case 1:
		return 256 + uint32(r.Intn(6))
	case 2:
		return r.Uint32()
	}
	return uint32(r.Intn(6))
}

// lists tells a list of up to so many, nil at times.
func lists[T any](r *rand.Rand, most int, one func() T) []T {
	var l []T
	for range r.Intn(most + 1) {
		l = append(l, one())
	}
	return l
}

func TestAnyArguments(t *testing.T) {
	r := rand.New(rand.NewSource(11))
	for range 200000 {
		staff := lists(r, 8, func() api.Staff { return api.Staff{Actor: odd(r), Role: odd(r), Ward: odd(r)} })
		s := policy.Sheet{Ward: odd(r), Owner: odd(r), Sealed: r.Intn(2) == 0, Granted: lists(r, 5, func() uint32 { return odd(r) })}
		fields := lists(r, 3, func() api.Field { return api.Field{Kind: uint8([]int{0, 1, 1, 1, 2, 3, 4, 255}[r.Intn(8)])} })
		isTheWords(t, staff, s, odd(r), fields, strings.Repeat("y", r.Intn(3)))
	}
}

// TestLongLists: what is not said to be refused is taken.
func TestLongLists(t *testing.T) {
	staff := append(crowd(100000, 10), town...)
	s := policy.Sheet{Ward: 9, Owner: 1 << 20, Sealed: true}
	for i := range uint32(100000) {
		s.Granted = append(s.Granted, 1<<24-i)
	}
	s.Granted = append(s.Granted, 6)
	fields := slices.Repeat([]api.Field{text}, 100000)
	wants(t, "R6: Read behind long lists", policy.Read(staff, s, 6), '+')
	wants(t, "R6: Amend of many fields", policy.Amend(town, policy.Sheet{Ward: 7}, 1, fields), '+')
	wants(t, "R6: Amend of many fields and another", policy.Amend(town, policy.Sheet{Ward: 7}, 1, append(fields, gone)), '-')
}
