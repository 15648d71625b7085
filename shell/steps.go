package shell

import (
	"almoner/api"
	"almoner/node"
	"almoner/world"
)

const maxRounds = 1000 // of one line

func (s *shell) retry(a arguments) api.Errno {
	return s.step(world.Step{Op: world.Retry, Client: a.numbers[0]})
}

func (s *shell) deliver(a arguments) api.Errno {
	return s.step(world.Step{Op: world.Deliver, Index: a.numbers[0]})
}

func (s *shell) double(a arguments) api.Errno {
	return s.step(world.Step{Op: world.Double, Index: a.numbers[0]})
}

func (s *shell) drop(a arguments) api.Errno {
	return s.step(world.Step{Op: world.Drop, Index: a.numbers[0]})
}

func (s *shell) tick(a arguments) api.Errno {
	return s.step(world.Step{Op: world.Tick, Node: a.numbers[0]})
}

func (s *shell) arm(a arguments) api.Errno {
	n := a.numbers
	return s.step(world.Step{Op: world.Arm, Node: n[0], Index: n[1], N: n[2]})
}

func (s *shell) crash(a arguments) api.Errno   { return s.stepOf(world.Crash, a) }
func (s *shell) restart(a arguments) api.Errno { return s.stepOf(world.Restart, a) }
func (s *shell) fill(a arguments) api.Errno    { return s.stepOf(world.Fill, a) }

// stepOf plays a step that has a node and an N.
func (s *shell) stepOf(op int, a arguments) api.Errno {
	return s.step(world.Step{Op: op, Node: a.numbers[0], N: a.numbers[1]})
}

// step plays a step, and says what it tells.
func (s *shell) step(x world.Step) api.Errno {
	seen := s.world.Step(x)
	if seen.E != api.OK {
		return seen.E
	}
	s.say(append([]string{"ok"}, digits(seen.Sent...)...)...)
	s.sayAnswers(seen.Answers)
	return api.OK
}

// run plays rounds, and says the answers that clients have got by them.
func (s *shell) run(a arguments) api.Errno {
	rounds := a.numbers[0]
	if rounds > maxRounds {
		return api.ELIMIT
	}
	for range rounds {
		s.round()
	}
	return api.OK
}

// round plays a round. A step of it that is refused, as a Tick of a node that is off, turns nothing.
func (s *shell) round() {
	for place := node.Head; place <= node.Tail; place++ {
		s.world.Step(world.Step{Op: world.Tick, Node: place})
	}
	for client := range s.clients {
		s.world.Step(world.Step{Op: world.Retry, Client: client})
	}
	for _, number := range s.world.Bag() { // those that are there now: what they bring waits for the next round
		seen := s.world.Step(world.Step{Op: world.Deliver, Index: number})
		s.sayAnswers(seen.Answers)
	}
}

// sayAnswers says a line for each answer.
func (s *shell) sayAnswers(answers []api.Answer) {
	for _, a := range answers {
		s.say(answerWords(a)...)
	}
}
