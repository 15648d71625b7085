package audit_test

import (
	"math/rand"
	"slices"
	"testing"

	"almoner/api"
	"almoner/audit"
)

// isOp tells whether an event's operation is one of api's.
func isOp(e api.Event) bool {
	return slices.Contains([]uint8{api.OpCreate, api.OpAmend, api.OpRead, api.OpRedact, api.OpHistory, api.OpSeal, api.OpBreak}, e.Request.Op)
}

// sumsUp asks for P20.6: all lines count together as many as the events of api's operations, and each list of places is in a line.
func sumsUp(t testing.TB, log []api.Event) {
	t.Helper()
	var counted, ops, told int
	numbers := map[uint32]bool{}
	for i, l := range audit.Access(log) {
		counted += int(l.Reads + l.Changes + l.Refused + l.Breaks)
		numbers[l.Record] = true
		if before := audit.Access(log)[max(0, i-1)]; i > 0 && (before.Actor > l.Actor || before.Actor == l.Actor && before.Record >= l.Record) {
			t.Errorf("P20.1: the line %+v behind %+v", l, before)
		}
	}
	for _, e := range log {
		if isOp(e) {
			ops++
		}
	}
	for number := range numbers {
		told += len(audit.Trail(log, number))
	}
	if counted != ops {
		t.Errorf("P20.6: the lines count %d, of %d events", counted, ops)
	}
	if told != len(log) {
		t.Errorf("P20.2: the trails of all records have %d places, of %d events", told, len(log))
	}
}

func TestSums(t *testing.T) {
	sumsUp(t, nil)
	for _, l := range [][]api.Request{story(), more()} {
		log := logOf(t, 4, l)
		for n := range len(log) + 1 {
			sumsUp(t, log[:n])
		}
	}
	r := rand.New(rand.NewSource(2002))
	for range 300 {
		sumsUp(t, anyLog(r))
	}
}

// isMaking tells whether an event is one of a list's creates.
func isMaking(e api.Event) bool { return e.Request.Op == api.OpCreate && e.Code == api.Done }

// shuffled tells a log's events in another order; the creates that are done stay in theirs, if that is asked.
func shuffled(r *rand.Rand, log []api.Event, keep bool) []api.Event {
	other := slices.Clone(log)
	r.Shuffle(len(other), func(i, k int) { other[i], other[k] = other[k], other[i] })
	if keep {
		making := slices.DeleteFunc(slices.Clone(log), func(e api.Event) bool { return !isMaking(e) })
		for i := range other {
			if isMaking(other[i]) {
				other[i], making = making[0], making[1:]
			}
		}
	}
	return other
}

// withoutMaking tells the lines of a log without its creates, and how many each actor has made.
func withoutMaking(log []api.Event) (lines []audit.Line, made map[uint32]uint32) {
	made = map[uint32]uint32{}
	for i, e := range log {
		if isMaking(e) {
			made[e.Request.Actor]++
			log = slices.Clone(log)
			log[i].Request = of(api.OpSeal, 1, 0) // in its place, one that is the same for all
		}
	}
	return audit.Access(log), made
}

// TestAnotherOrder: Access of a list in another order differs at most by which records creates made.
func TestAnotherOrder(t *testing.T) {
	r := rand.New(rand.NewSource(2003))
	differ := 0
	for range 600 {
		log := oneOf(r, anyLog(r), logOf(t, 4, more()))
		if other := shuffled(r, log, true); !slices.Equal(audit.Access(other), audit.Access(log)) {
			t.Fatalf("P20.6: with the creates in their order: of\n%+v, Access:\n%+v, want\n%+v", other, audit.Access(other), audit.Access(log))
		}
		other := shuffled(r, log, false)
		if !slices.Equal(audit.Access(other), audit.Access(log)) {
			differ++
		}
		lines, made := withoutMaking(log)
		others, makes := withoutMaking(other)
		if !slices.Equal(lines, others) {
			t.Fatalf("P20.6: but for the creates: %+v, want %+v", others, lines)
		}
		for actor, n := range made {
			if makes[actor] != n || changesOf(other, actor) != changesOf(log, actor) {
				t.Fatalf("P20.6: the actor %d has made other changes", actor)
			}
		}
	}
	if differ < 50 {
		t.Errorf("in %d cases alone the order was seen", differ)
	}
}

// changesOf tells all changes of an actor.
func changesOf(log []api.Event, actor uint32) uint32 {
	sum := uint32(0)
	for _, l := range audit.Access(log) {
		if l.Actor == actor {
			sum += l.Changes
		}
	}
	return sum
}

// TestAListBehindAnother: what a list tells of its beginning does not hang on what comes behind.
func TestAListBehindAnother(t *testing.T) {
	r := rand.New(rand.NewSource(2004))
	for range 200 {
		log := anyLog(r)
		n := r.Intn(len(log) + 1)
		for number := range uint32(4) {
			all, first := audit.Trail(log, number), audit.Trail(log[:n], number)
			if !slices.Equal(all[:len(first)], first) {
				t.Fatalf("P20.2: Trail of the first %d is %d, of all %d", n, first, all)
			}
			points, e := audit.Series(log, number, "a", 11)
			ahead, none := audit.Series(log[:n], number, "a", 11)
			if none != api.OK && e != none || e == api.OK && !samePoints(points[:len(ahead)], ahead) {
				t.Fatalf("P20.3: Series of the first %d is %v, %d, of all %v, %d", n, ahead, none, points, e)
			}
		}
		answers, bad := audit.Replay(2, people, log)
		ahead, wrong := audit.Replay(2, people, log[:n])
		if !sameAnswers(answers[:n], ahead) || wrong >= 0 && bad != wrong || wrong < 0 && bad >= 0 && bad < n {
			t.Fatalf("P20.4: of the first %d bad is %d, of all %d", n, wrong, bad)
		}
	}
}
