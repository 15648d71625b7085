package world_test

import (
	"testing"

	"almoner/api"
	"almoner/world"
)

// TestNoSuchMessage: of numbers that are gone, and of such as were never there.
func TestNoSuchMessage(t *testing.T) {
	w := made(t, sized(1, 0), 1)
	for _, number := range append([]int{1, 2}, noNumbers...) {
		refuses(t, w, deliver(number), api.ENONE)
		refuses(t, w, double(number), api.ENONE)
		refuses(t, w, drop(number), api.ENONE)
	}
	for range 3 {
		w.Step(call(0, creates()))
	}
	sends(t, w, deliver(1))
	sends(t, w, drop(2))
	sends(t, w, double(3), 13)
	sends(t, w, deliver(13))
	for _, number := range append([]int{1, 2, 13, 14}, noNumbers...) {
		refuses(t, w, deliver(number), api.ENONE)
		refuses(t, w, double(number), api.ENONE)
		refuses(t, w, drop(number), api.ENONE)
	}
	isBag(t, "three are gone", w, 3, 4, 5, 6, 7, 8, 9, 10, 11, 12)
}

// TestDeliverToANode: it takes the message, and what it sends goes into the bag.
func TestDeliverToANode(t *testing.T) {
	w := standing(t, sized(2, 0), 2, creates(), creates())
	last := w.Step(call(0, creates())).Sent[1]
	sends(t, w, deliver(last-1)) // the head, silent
	isLog(t, "the head has it", w, 0, 1, 1, 2)
	sends(t, w, deliver(last)) // the tail has no answer yet, and is silent
	isBag(t, "both came", w)
	sends(t, w, tick(0), last+1)
	isMessage(t, w, last+1, 0, 1, give(w.Log(0)[2]))
	sends(t, w, deliver(last+1), last+2)
	isMessage(t, w, last+2, 1, 0, have(3))
	isLog(t, "the middle has it", w, 1, 1, 1, 2)
	sends(t, w, deliver(last+2))
	sends(t, w, tick(0))
	sends(t, w, tick(1), last+3)
	sends(t, w, deliver(last+3), last+4)
	isLog(t, "the tail has it", w, 2, 1, 1, 2)
}

// TestDeliverToANodeThatIsOff: it is lost, and the node is as it was.
func TestDeliverToANodeThatIsOff(t *testing.T) {
	for _, s := range []struct{ node, number int }{{0, 1}, {2, 2}, {1, 3}, {2, 4}} {
		w := made(t, sized(1, 0), 1)
		w.Step(call(0, creates()))
		w.Step(tick(0))
		w.Step(tick(1))
		sends(t, w, crash(s.node, 0))
		was := laid(w.Disk(s.node))
		sends(t, w, deliver(s.number))
		isNoMessage(t, w, s.number)
		if len(w.Bag()) != 3 || len(w.Log(s.node)) != 0 || laid(w.Disk(s.node)) != was {
			t.Errorf("P18.3: the message %d to the node %d, that is off: Bag %d, Log %v", s.number, s.node, w.Bag(), w.Log(s.node))
		}
		refuses(t, w, deliver(s.number), api.ENONE)
		sends(t, w, restart(s.node, 0))
		isLog(t, "restarted", w, s.node)
	}
}

// answered tells a world in which the answer to the client 1's first request is under way, and its number.
func answered(t *testing.T) (*world.World, int) {
	t.Helper()
	w := made(t, sized(1, 0), 2)
	w.Step(call(1, creates(text("name", "Ada"))))
	for range 50 {
		for _, s := range []world.Step{tick(0), tick(1), retry(1)} {
			w.Step(s)
		}
		for _, number := range w.Bag() {
			if _, _, m, _ := w.Message(number); m.Kind == api.MsgAnswer {
				return w, number
			}
			w.Step(deliver(number))
		}
	}
	t.Fatal("T5: no answer comes")
	return nil, 0
}

// TestDeliverToAClient: it gets its answer once; doubled and late ones, and refusals, give it none.
func TestDeliverToAClient(t *testing.T) {
	w, number := answered(t)
	want := created(id(1, 1), 1)
	isMessage(t, w, number, 2, 11, answer(want))
	copied := w.Step(double(number)).Sent[0]
	waits(t, "the answer is under way", w, 1, 1)
	got(t, "the answer is under way", w, 1)
	answers(t, w, deliver(number), want)
	waits(t, "the answer has come", w, 1)
	got(t, "the answer has come", w, 1, want)
	isMessage(t, w, copied, 2, 11, answer(want))
	answers(t, w, deliver(copied))
	got(t, "the answer has come twice", w, 1, want)
	for range 3 { // the asks that are under way are answered, too
		for _, number := range w.Bag() {
			if x := w.Step(deliver(number)); len(x.Answers) != 0 {
				t.Errorf("P18.3: an answer was got twice: %s", tellSeen(x))
			}
		}
	}
	got(t, "the answer has come often", w, 1, want)
	got(t, "another client", w, 0)
}

// TestDeliverOfAnswersWithLists: each answer is the model's, with its fields and its history.
func TestDeliverOfAnswersWithLists(t *testing.T) {
	w := made(t, sized(1, 0), 1)
	var all []api.Answer
	for _, r := range story() {
		w.Step(call(0, r))
		var new []api.Answer
		for range 12 {
			for _, s := range []world.Step{tick(0), tick(1), tick(2), retry(0)} {
				w.Step(s)
			}
			for _, number := range w.Bag() {
				new = append(new, w.Step(deliver(number)).Answers...)
			}
		}
		if len(new) != 1 {
			t.Fatalf("P18.3: %s: %d answers", tellRequest(r), len(new))
		}
		all = append(all, new[0])
	}
	if tellAnswers(all) != tellAnswers(model(people(), w.Log(2))) {
		t.Errorf("T1: the answers\n%s, want\n%s", tellAnswers(all), tellAnswers(model(people(), w.Log(2))))
	}
	got(t, "all are answered", w, 0, all...)
	if len(all[3].Fields) != 2 || len(all[10].History) != 3 {
		t.Errorf("the story tells too little: %s", tellAnswers(all))
	}
}

// TestBusyGivesNoAnswer: the client waits on, and gets its answer when there is room.
func TestBusyGivesNoAnswer(t *testing.T) {
	w := made(t, sized(1, 0), 1)
	sends(t, w, fill(0, -5)) // whatever is not 0
	sends(t, w, call(0, creates()), 1, 2)
	sends(t, w, deliver(1), 3)
	isMessage(t, w, 3, 0, 10, busy(id(0, 1), api.EFULL))
	isLog(t, "no room", w, 0)
	sends(t, w, double(3), 4)
	sends(t, w, deliver(3))
	sends(t, w, deliver(4))
	waits(t, "no room", w, 0, 1)
	got(t, "no room", w, 0)
	sends(t, w, fill(0, 0))
	rounds(w, 1, 12)
	got(t, "room again", w, 0, created(id(0, 1), 1))
}

// TestDouble: the same once more, behind all others; both are taken, each once.
func TestDouble(t *testing.T) {
	w := made(t, sized(1, 0), 1)
	sends(t, w, call(0, creates(text("a", "b"))), 1, 2)
	r := with(creates(text("a", "b")), id(0, 1))
	sends(t, w, double(1), 3)
	sends(t, w, double(3), 4)
	sends(t, w, double(2), 5)
	for _, number := range []int{1, 3, 4} {
		isMessage(t, w, number, 10, 0, request(r))
	}
	isMessage(t, w, 5, 10, 2, ask(r.Id))
	isBag(t, "doubled", w, 1, 2, 3, 4, 5)
	sends(t, w, deliver(4))
	sends(t, w, drop(1))
	isLog(t, "a copy came", w, 0, 1)
	sends(t, w, deliver(3))
	isLog(t, "another copy came", w, 0, 1)
	isBag(t, "the asks are left", w, 2, 5)
	isMessage(t, w, 2, 10, 2, ask(r.Id))
}

// TestDoubleToANodeThatIsOff: what is under way hangs on no node.
func TestDoubleToANodeThatIsOff(t *testing.T) {
	w := made(t, sized(1, 0), 1)
	w.Step(call(0, creates()))
	sends(t, w, crash(0, 0))
	sends(t, w, double(1), 3)
	sends(t, w, drop(1))
	sends(t, w, restart(0, 0))
	sends(t, w, deliver(3))
	isLog(t, "it has waited", w, 0, 1)
}

// TestDrop: it is lost, and nothing else has happened.
func TestDrop(t *testing.T) {
	w, number := answered(t)
	bag := len(w.Bag())
	sends(t, w, drop(number))
	isNoMessage(t, w, number)
	waits(t, "the answer is lost", w, 1, 1)
	if len(w.Bag()) != bag-1 {
		t.Errorf("P18.3: Drop of one: %d were under way, %d are", bag, len(w.Bag()))
	}
	rounds(w, 2, 3)
	got(t, "it was asked for again", w, 1, created(id(1, 1), 1))
}
