package policy

import (
	"slices"

	"almoner/api"
)

// question is all that a rule may look at.
type question struct {
	staff  []api.Staff
	person api.Staff // who asks
	sheet  Sheet     // of a record that is to be made: its ward and its owner
	fields []api.Field
	reason string
}

func (q question) is(roles ...uint32) bool {
	return slices.Contains(roles, q.person.Role)
}

func (q question) isNear() bool {
	return q.person.Ward == q.sheet.Ward
}

func (q question) isOwner() bool {
	return q.person.Actor == q.sheet.Owner
}

func (q question) isGranted() bool {
	return slices.Contains(q.sheet.Granted, q.person.Actor)
}

func (q question) ownerIsPatient() bool {
	owner, found := Find(q.staff, q.sheet.Owner)
	return found && owner.Role == api.RolePatient
}

func (q question) hasTextsAlone() bool {
	for _, f := range q.fields {
		if f.Kind != api.FieldText {
			return false
		}
	}
	return true
}
