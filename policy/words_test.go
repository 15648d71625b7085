package policy_test

// The chapter's words, read plainly: what the package is held against.

import (
	"almoner/api"
	"almoner/policy"
)

// plain is a staff by the chapter's words.
type plain []api.Staff

func (p plain) valid() bool {
	for i, a := range p {
		for _, b := range p[i+1:] {
			if a.Actor >= b.Actor {
				return false
			}
		}
		if a.Actor == 0 || !(a.Role == 1 || a.Role == 2 || a.Role == 3 || a.Role == 4 || a.Role == 5) {
			return false
		}
	}
	return len(p) <= 64
}

// first tells the place of the first person of a number; -1, if there is none.
func (p plain) first(actor uint32) int {
	at := -1
	for i := len(p) - 1; i >= 0; i-- {
		if p[i].Actor == actor {
			at = i
		}
	}
	return at
}

// role tells whether an actor is somebody of that role.
func (p plain) role(actor, role uint32) bool {
	at := p.first(actor)
	return at >= 0 && p[at].Role == role
}

func (p plain) near(actor, ward uint32) bool {
	at := p.first(actor)
	return at >= 0 && p[at].Ward == ward
}

func granted(s policy.Sheet, actor uint32) bool {
	n := 0
	for _, g := range s.Granted {
		if g == actor {
			n++
		}
	}
	return n > 0
}

func (p plain) create(actor, ward, owner uint32) uint8 {
	if p.first(actor) < 0 || p.first(owner) < 0 || !p.role(owner, api.RolePatient) {
		return api.NoActor
	}
	if p.role(actor, api.RoleClerk) || p.role(actor, api.RoleNurse) || p.role(actor, api.RoleDoctor) {
		if p.near(actor, ward) {
			return api.Done
		}
	}
	return api.NotAllowed
}

func (p plain) read(s policy.Sheet, actor uint32) uint8 {
	clerk, nurse, doctor := p.role(actor, api.RoleClerk), p.role(actor, api.RoleNurse), p.role(actor, api.RoleDoctor)
	near := p.near(actor, s.Ward)
	switch {
	case p.first(actor) < 0:
		return api.NoActor
	case actor == s.Owner:
		return api.Done
	case doctor && near:
		return api.Done
	case (nurse || clerk) && near && !s.Sealed:
		return api.Done
	case (doctor || nurse) && granted(s, actor):
		return api.Done
	case (nurse || clerk) && near:
		return api.IsSealed
	}
	return api.NotAllowed
}

func (p plain) history(s policy.Sheet, actor uint32) uint8 {
	if p.role(actor, api.RoleAuditor) {
		return api.Done
	}
	return p.read(s, actor)
}

func (p plain) amend(s policy.Sheet, actor uint32, fields []api.Field) uint8 {
	if code := p.read(s, actor); code != api.Done {
		return code
	}
	if p.role(actor, api.RoleNurse) || p.role(actor, api.RoleDoctor) {
		return api.Done
	}
	texts := 0
	for _, f := range fields {
		if f.Kind == api.FieldText {
			texts++
		}
	}
	if p.role(actor, api.RoleClerk) && texts == len(fields) {
		return api.Done
	}
	return api.NotAllowed
}

func (p plain) redact(s policy.Sheet, actor uint32) uint8 {
	switch {
	case p.first(actor) < 0:
		return api.NoActor
	case actor == s.Owner, p.role(actor, api.RoleDoctor) && p.near(actor, s.Ward):
		return api.Done
	}
	return api.NotAllowed
}

func (p plain) seal(s policy.Sheet, actor uint32) uint8 {
	switch {
	case p.first(actor) < 0:
		return api.NoActor
	case actor == s.Owner:
		return api.Done
	}
	return api.NotAllowed
}

func (p plain) breaks(actor uint32, reason string) uint8 {
	switch {
	case p.first(actor) < 0:
		return api.NoActor
	case len(reason) > 0 && (p.role(actor, api.RoleDoctor) || p.role(actor, api.RoleNurse)):
		return api.Done
	}
	return api.NotAllowed
}
