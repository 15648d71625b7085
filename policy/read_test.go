package policy_test

import (
	"fmt"
	"testing"

	"almoner/api"
	"almoner/policy"
)

func TestRead(t *testing.T) {
	for _, role := range everyRole {
		staff := alone(20, role, 7)
		for i, s := range states(7, 19, 20) {
			wants(t, fmt.Sprintf("P10.3: Read of %+v by the role %d", s, role), policy.Read(staff, s, 20), readers(role)[i])
			s.Owner = 20
			wants(t, fmt.Sprintf("P10.3: Read of %+v by its owner, of the role %d", s, role), policy.Read(staff, s, 20), '+')
		}
	}
}

func TestHistory(t *testing.T) {
	for _, role := range everyRole {
		staff := alone(20, role, 7)
		for i, s := range states(7, 19, 20) {
			want := readers(role)[i]
			if role == api.RoleAuditor {
				want = '+'
			}
			wants(t, fmt.Sprintf("P10.3: History of %+v by the role %d", s, role), policy.History(staff, s, 20), want)
			s.Owner = 20
			wants(t, fmt.Sprintf("P10.3: History of %+v by its owner, of the role %d", s, role), policy.History(staff, s, 20), '+')
		}
	}
}

// TestGranted: a list of granted actors may be any.
func TestGranted(t *testing.T) {
	for _, c := range []struct {
		list []uint32
		want byte
	}{
		{nil, '-'},
		{[]uint32{}, '-'},
		{[]uint32{4}, '+'},
		{[]uint32{3}, '-'},
		{[]uint32{0, 3, 5, 4 + 256, 4 + 1<<16, 1<<32 - 1}, '-'},
		{[]uint32{1, 4, 9}, '+'},
		{[]uint32{1, 2, 4}, '+'},
		{[]uint32{4, 5, 6}, '+'},
		{[]uint32{9, 4, 1}, '+'}, // sinks
		{[]uint32{9, 5, 4}, '+'},
		{[]uint32{4, 9, 1}, '+'},
		{[]uint32{9, 1, 4}, '+'},
		{[]uint32{5, 4}, '+'},
		{[]uint32{4, 4}, '+'}, // twice
		{[]uint32{9, 9, 4, 1, 4}, '+'},
		{[]uint32{9, 9, 3, 3}, '-'},
	} {
		for _, shut := range []bool{false, true} {
			s := policy.Sheet{Ward: 7, Owner: 6, Sealed: shut, Granted: c.list}
			what := fmt.Sprintf("of %+v by 4, of another ward", s)
			wants(t, "P10.3: Read "+what, policy.Read(people, s, 4), c.want)
			wants(t, "P10.3: History "+what, policy.History(people, s, 4), c.want)
			wants(t, "P10.4: Amend "+what, policy.Amend(people, s, 4, []api.Field{quantity}), c.want)
		}
	}
}

// TestGrantedToNobody: a number that is nobody's is let in by no list.
func TestGrantedToNobody(t *testing.T) {
	s := policy.Sheet{Ward: 7, Owner: 9, Sealed: true, Granted: []uint32{8, 9}}
	wants(t, "P10.1: Read by one who is granted and nobody", policy.Read(people, s, 8), '?')
	wants(t, "P10.1: Read by one who is the owner and nobody", policy.Read(people, s, 9), '?')
	wants(t, "P10.1: History by one who is granted and nobody", policy.History(people, s, 8), '?')
	wants(t, "P10.1: Amend by one who is granted and nobody", policy.Amend(people, s, 8, nil), '?')
}

// changes tells lists of fields, and whether all of them are texts.
func changes() map[string]struct {
	fields []api.Field
	texts  bool
} {
	kind := func(kinds ...uint8) []api.Field {
		var l []api.Field
		for i, k := range kinds {
			l = append(l, api.Field{Name: fmt.Sprint(i), Kind: k})
		}
		return l
	}
	return map[string]struct {
		fields []api.Field
		texts  bool
	}{
		"none":                      {nil, true},
		"an empty list":             {[]api.Field{}, true},
		"a text":                    {[]api.Field{text}, true},
		"texts":                     {kind(1, 1, 1), true},
		"a text without a name":     {[]api.Field{{Kind: api.FieldText}}, true},
		"a text with a number":      {[]api.Field{{Name: "a", Kind: api.FieldText, Value: 3, Unit: 200}}, true},
		"texts of one name":         {[]api.Field{text, text}, true},
		"many texts":                {make40(api.FieldText), true},
		"a quantity":                {[]api.Field{quantity}, false},
		"one taken away":            {[]api.Field{gone}, false},
		"a quantity with a text":    {[]api.Field{{Name: "a", Kind: api.FieldQuantity, Text: "x"}}, false},
		"a text ahead of another":   {[]api.Field{text, quantity}, false},
		"a text behind another":     {[]api.Field{quantity, text}, false},
		"a text ahead of none":      {[]api.Field{text, gone}, false},
		"a text behind none":        {[]api.Field{gone, text}, false},
		"another between texts":     {kind(1, 2, 1), false},
		"another behind many texts": {append(make40(api.FieldText), quantity), false},
		"another ahead of many":     {append([]api.Field{gone}, make40(api.FieldText)...), false},
		"no text at all":            {[]api.Field{quantity, gone}, false},
		"the kind 0":                {kind(0), false},
		"the kind 4":                {kind(4), false},
		"the kind 255":              {kind(255), false},
		"the kind 0 behind a text":  {kind(1, 0), false},
		"the kind 4 ahead of one":   {kind(4, 1), false},
	}
}

// make40 tells more fields than a record may have.
func make40(kind uint8) []api.Field {
	l := make([]api.Field, 40)
	for i := range l {
		l[i].Kind = kind
	}
	return l
}

func TestAmend(t *testing.T) {
	for name, change := range changes() {
		for _, role := range everyRole {
			staff := alone(20, role, 7)
			mayChange := role == api.RoleNurse || role == api.RoleDoctor || role == api.RoleClerk && change.texts
			for i, s := range states(7, 19, 20) {
				want := readers(role)[i]
				if want == '+' && !mayChange {
					want = '-'
				}
				wants(t, fmt.Sprintf("P10.4: Amend of %+v by the role %d: %s", s, role, name), policy.Amend(staff, s, 20, change.fields), want)

				s.Owner, want = 20, '-'
				if mayChange {
					want = '+'
				}
				wants(t, fmt.Sprintf("P10.4: Amend of %+v by its owner, of the role %d: %s", s, role, name), policy.Amend(staff, s, 20, change.fields), want)
			}
		}
	}
}
