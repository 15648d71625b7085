package policy

import "almoner/api"

// rule is an operation's row: who may do it, and why another one may not.
type rule struct {
	may    func(q question) bool
	whyNot func(q question) uint8
}

// rules tells the table, a row for each operation at its number.
func rules() [api.OpBreak + 1]rule {
	return [...]rule{
		api.OpCreate:  {may: mayCreate, whyNot: whyNotCreate},
		api.OpAmend:   {may: mayAmend, whyNot: whyNotAmend},
		api.OpRead:    {may: mayRead, whyNot: whyNotRead},
		api.OpRedact:  {may: mayRedact, whyNot: notAllowed},
		api.OpHistory: {may: mayReadHistory, whyNot: whyNotRead},
		api.OpSeal:    {may: maySeal, whyNot: notAllowed},
		api.OpBreak:   {may: mayBreak, whyNot: notAllowed},
	}
}

// answer asks an operation's row, once it is known who asks.
func answer(op int, actor uint32, q question) uint8 {
	person, found := Find(q.staff, actor)
	if !found {
		return api.NoActor
	}
	q.person = person
	row := rules()[op]
	if row.may(q) {
		return api.Done
	}
	return row.whyNot(q)
}

func mayCreate(q question) bool {
	return q.ownerIsPatient() && q.isNear() && q.is(api.RoleClerk, api.RoleNurse, api.RoleDoctor)
}

func whyNotCreate(q question) uint8 {
	if !q.ownerIsPatient() {
		return api.NoActor
	}
	return api.NotAllowed
}

func mayRead(q question) bool {
	return q.isOwner() ||
		q.isNear() && q.is(api.RoleDoctor) ||
		q.isNear() && q.is(api.RoleNurse, api.RoleClerk) && !q.sheet.Sealed ||
		q.isGranted() && q.is(api.RoleDoctor, api.RoleNurse)
}

// whyNotRead need not look at the seal: a nurse or a clerk who is near may read whatever is not sealed.
func whyNotRead(q question) uint8 {
	if q.isNear() && q.is(api.RoleNurse, api.RoleClerk) {
		return api.IsSealed
	}
	return api.NotAllowed
}

func mayReadHistory(q question) bool {
	return q.is(api.RoleAuditor) || mayRead(q)
}

func mayAmend(q question) bool {
	return mayRead(q) && (q.is(api.RoleNurse, api.RoleDoctor) || q.is(api.RoleClerk) && q.hasTextsAlone())
}

func whyNotAmend(q question) uint8 {
	if !mayRead(q) {
		return whyNotRead(q)
	}
	return api.NotAllowed
}

func mayRedact(q question) bool {
	return q.isOwner() || q.isNear() && q.is(api.RoleDoctor)
}

func maySeal(q question) bool {
	return q.isOwner()
}

func mayBreak(q question) bool {
	return q.is(api.RoleDoctor, api.RoleNurse) && q.reason != ""
}

func notAllowed(question) uint8 {
	return api.NotAllowed
}
