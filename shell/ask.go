package shell

import (
	"strconv"

	"almoner/api"
	"almoner/audit"
	"almoner/node"
	"almoner/verifier"
	"almoner/wire"
	"almoner/world"
)

func (s *shell) bag(arguments) api.Errno {
	for _, number := range s.world.Bag() {
		from, to, m, _ := s.world.Message(number)
		s.say(digits(number, from, to, int(m.Kind))...)
	}
	return api.OK
}

func (s *shell) log(a arguments) api.Errno {
	for _, ev := range s.world.Log(a.numbers[0]) {
		r := ev.Request
		s.say(digits(ev.Place, r.Id.Client, r.Id.Number, r.Actor, uint32(r.Op), r.Record, uint32(ev.Code))...)
	}
	return api.OK
}

func (s *shell) got(a arguments) api.Errno {
	s.sayAnswers(s.world.Got(a.numbers[0]))
	return api.OK
}

// sign lets the tail sign its head, keeps it, and says of what size it is, and its root.
func (s *shell) sign(arguments) api.Errno {
	seen := s.world.Step(world.Step{Op: world.Sign})
	if seen.E != api.OK {
		return seen.E
	}
	s.head = seen.Bytes
	signed, _ := wire.GetSigned(seen.Bytes) // the tail's have a form
	s.say(append(digits(signed.Head.Size), hexWord(signed.Head.Root))...)
	return api.OK
}

// verify makes a new verifier.
func (s *shell) verify(arguments) api.Errno {
	v, errno := verifier.New(s.config.Width, s.config.Height, s.world.Public())
	s.verifier = v
	return s.sayOK(errno)
}

// check hands the verifier the last head that was signed.
func (s *shell) check(a arguments) api.Errno {
	trusted, _ := s.verifier.Trusted() // the zero one is of size 0
	proof := s.world.Step(world.Step{Op: world.Extend, Index: int(trusted.Head.Size), N: a.numbers[0]})
	if proof.E != api.OK {
		return proof.E
	}
	return s.sayOK(s.verifier.Head(s.head, proof.Bytes))
}

// include hands the verifier one of the tail's events.
func (s *shell) include(a arguments) api.Errno {
	place, size := a.numbers[0], a.numbers[1]
	path := s.world.Step(world.Step{Op: world.Include, Index: place, N: size})
	if path.E != api.OK {
		return path.E
	}
	entry, _ := wire.PutEvent(s.tailLog()[place]) // it is there: the tail has a path from it
	return s.sayOK(s.verifier.Entry(entry, place, path.Bytes))
}

// tailLog tells the events of which all questions are asked.
func (s *shell) tailLog() []api.Event { return s.world.Log(node.Tail) }

func (s *shell) access(arguments) api.Errno {
	for _, l := range audit.Access(s.tailLog()) {
		s.say(digits(l.Actor, l.Record, l.Reads, l.Changes, l.Refused, l.Breaks)...)
	}
	return api.OK
}

func (s *shell) trail(a arguments) api.Errno {
	s.say(digits(audit.Trail(s.tailLog(), uint32(a.numbers[0]))...)...)
	return api.OK
}

func (s *shell) series(a arguments) api.Errno {
	unit := unitOf(a.unit)
	points, errno := audit.Series(s.tailLog(), uint32(a.numbers[0]), a.text, unit)
	if errno != api.OK {
		return errno
	}
	for _, p := range points {
		s.say(append(digits(p.Place), quantityWord(p.Value, unit))...)
	}
	return api.OK
}

func (s *shell) replay(arguments) api.Errno {
	_, bad := audit.Replay(s.config.Width, s.config.Staff, s.tailLog())
	s.say(strconv.Itoa(bad))
	return api.OK
}

func (s *shell) public(arguments) api.Errno {
	s.say(hexWord(s.world.Public()))
	return api.OK
}
