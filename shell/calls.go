package shell

import (
	"cmp"
	"slices"

	"almoner/api"
	"almoner/world"
)

// hire takes in one more of the staff. Whether there may be such a staff is only asked by a world.
func (s *shell) hire(a arguments) api.Errno {
	n := a.numbers
	s.staff = append(s.staff, api.Staff{Actor: uint32(n[0]), Role: uint32(n[1]), Ward: uint32(n[2])})
	slices.SortStableFunc(s.staff, byActor)
	return s.sayOK(api.OK)
}

func byActor(a, b api.Staff) int { return cmp.Compare(a.Actor, b.Actor) }

// begin makes a new world. All that was told of the old one goes with it.
func (s *shell) begin(a arguments) api.Errno {
	n := a.numbers
	c := api.Config{Width: n[0], Height: n[1], Seed: a.bytes, Staff: slices.Clone(s.staff), Segment: n[2], Disk: n[3]}
	w, errno := world.New(c, n[4])
	if errno == api.OK {
		s.world, s.config, s.clients = w, c, n[4]
		s.verifier, s.head = nil, nil
	}
	return s.sayOK(errno)
}

func (s *shell) create(a arguments) api.Errno {
	ward, owner := uint32(a.numbers[2]), uint32(a.numbers[3])
	return s.call(a, api.Request{Op: api.OpCreate, Ward: ward, Owner: owner, Fields: a.fields})
}

func (s *shell) amend(a arguments) api.Errno     { return s.callOf(api.OpAmend, a) }
func (s *shell) read(a arguments) api.Errno      { return s.callOf(api.OpRead, a) }
func (s *shell) redact(a arguments) api.Errno    { return s.callOf(api.OpRedact, a) }
func (s *shell) history(a arguments) api.Errno   { return s.callOf(api.OpHistory, a) }
func (s *shell) seal(a arguments) api.Errno      { return s.callOf(api.OpSeal, a) }
func (s *shell) breakSeal(a arguments) api.Errno { return s.callOf(api.OpBreak, a) }

// callOf plays the Call of a request that names a record, and what else its line has.
func (s *shell) callOf(op uint8, a arguments) api.Errno {
	r := api.Request{Op: op, Record: uint32(a.numbers[2]), Fields: a.fields, Reason: a.text}
	if len(a.numbers) > 3 {
		r.Version = uint32(a.numbers[3])
	}
	return s.call(a, r)
}

// call plays the Call of a request. The first number of each line of a Call is the client, the second one the actor.
func (s *shell) call(a arguments, r api.Request) api.Errno {
	r.Actor = uint32(a.numbers[1])
	return s.step(world.Step{Op: world.Call, Client: a.numbers[0], Request: r})
}
