package audit_test

import (
	"bytes"
	"crypto/sha256"
	"math"
	"slices"
	"testing"

	"almoner/api"
	"almoner/audit"
	"almoner/record"
	"almoner/wire"
)

// widths that may not be.
var noWidths = []int{math.MinInt, math.MinInt32, -32, -4, -1, 0, 33, 34, 64, 256, 260, math.MaxInt32, math.MaxUint32, math.MaxUint32 + 5, math.MaxInt}

// TestReplayAtEachWidth: that of the log's digests, and no other.
func TestReplayAtEachWidth(t *testing.T) {
	for width := 1; width <= api.MaxWidth; width++ {
		for _, l := range [][]api.Request{story(), more()} {
			log := logOf(t, width, l)
			replay(t, "its own width", width, people, log, -1)
			for other := range api.MaxWidth + 1 {
				if other != width {
					replay(t, "another width", other, people, log, 0)
				}
			}
			for _, other := range noWidths {
				replay(t, "a width that may not be", other, people, log, 0)
				replay(t, "no events", other, people, nil, -1)
			}
		}
	}
}

func TestReplayOfNothing(t *testing.T) {
	for _, staff := range [][]api.Staff{nil, {}, people} {
		replay(t, "nil", 4, staff, nil, -1)
		replay(t, "an empty list", 4, staff, []api.Event{}, -1)
		replay(t, "zeros", 4, staff, make([]api.Event, 3), 0)
	}
}

// TestReplayOfOthersStaff: with none all are refused, and with another one they are answered otherwise from some place on.
func TestReplayOfOthersStaff(t *testing.T) {
	log := logOf(t, 4, story())
	replay(t, "no staff", 4, nil, log, 0)
	answers, _ := audit.Replay(4, nil, log)
	for i, a := range answers {
		if a.Code != api.NoActor {
			t.Errorf("P20.4: nobody's request %d is answered %d", i, a.Code)
		}
	}
	replay(t, "without the last of them", 4, people[:5], log, 0) // no owner is there
	nurse := slices.Delete(slices.Clone(people), 1, 2)
	replay(t, "without the nurse", 4, nurse, log, 1)
	auditor := slices.Delete(slices.Clone(people), 4, 5)
	replay(t, "without the auditor", 4, auditor, log, 16)
	replay(t, "with one who has not asked", 4, append(slices.Clone(people), api.Staff{Actor: 10, Role: api.RoleDoctor, Ward: 7}), log, -1)
	replay(t, "with one who was nobody", 4, append(slices.Clone(people), api.Staff{Actor: 9, Role: api.RoleDoctor, Ward: 7}), log, 18)
	back := slices.Clone(people)
	slices.Reverse(back)
	replay(t, "falling", 4, back, log, -1)
	replay(t, "twice", 4, append(slices.Clone(people), people...), log, -1)
	replay(t, "of any roles", 4, []api.Staff{{}, {Actor: most32, Role: 99, Ward: most32}, {Actor: 1, Role: 0}}, log, 0)

	var none []api.Event // a log of nobody's is one, too
	for i, a := range record.Answers(nil, story()) {
		e, _ := record.Event(4, uint32(i), story()[i], a)
		none = append(none, e)
	}
	replay(t, "no staff, and a log of that", 4, nil, none, -1)
	replay(t, "a staff, and a log of nobody's", 4, people, none, 0)
}

// spoilings are changes by which an event tells its own no more.
func spoilings(at int) map[string]func(e *api.Event) {
	return map[string]func(e *api.Event){
		"the place ahead":          func(e *api.Event) { e.Place = uint32(at) - 1 },
		"the place behind":         func(e *api.Event) { e.Place = uint32(at) + 1 },
		"a very great place":       func(e *api.Event) { e.Place = most32 },
		"a place 2^31 behind":      func(e *api.Event) { e.Place += 1 << 31 },
		"a place 2^16 behind":      func(e *api.Event) { e.Place += 1 << 16 },
		"a place past the last":    func(e *api.Event) { e.Place = api.MaxEvents },
		"the next code":            func(e *api.Event) { e.Code++ },
		"a code that is none":      func(e *api.Event) { e.Code += 128 },
		"no digest":                func(e *api.Event) { e.Digest = nil },
		"a digest a byte shorter":  func(e *api.Event) { e.Digest = e.Digest[:3] },
		"a digest a byte longer":   func(e *api.Event) { e.Digest = append(bytes.Clone(e.Digest), 0) },
		"another first byte":       func(e *api.Event) { e.Digest = append([]byte{e.Digest[0] + 1}, e.Digest[1:]...) },
		"another last bit":         func(e *api.Event) { e.Digest = append(bytes.Clone(e.Digest[:3]), e.Digest[3]^1) },
		"another client":           func(e *api.Event) { e.Request.Id.Client += 9 },
		"another number":           func(e *api.Event) { e.Request.Id.Number += 9 },
		"a request of no op":       func(e *api.Event) { e.Request.Op = 0 },
		"a request of an op above": func(e *api.Event) { e.Request.Op = 8 },
		"nobody's":                 func(e *api.Event) { e.Request.Actor = 1000 },
	}
}

// TestReplayOfSpoiltLogs: one event, at each place of a log, of which the place, the code, the digest, the request is another one.
func TestReplayOfSpoiltLogs(t *testing.T) {
	log := logOf(t, 4, story())
	for at := range log {
		for what, spoil := range spoilings(at) {
			if what == "nobody's" && log[at].Code == api.NoActor {
				continue // it is answered the same
			}
			other := copied(log)
			spoil(&other[at])
			replay(t, what, 4, people, other, at)
			for behind := at + 1; behind < len(log); behind++ { // the first one is told
				other[behind].Code ^= 1
			}
			replay(t, what+", and all behind it", 4, people, other, at)
		}
	}
}

// TestReplayOfRequestsWithoutAForm: of one that the list tells as it was answered, with NoForm, there is no event.
func TestReplayOfRequestsWithoutAForm(t *testing.T) {
	formless := []api.Request{
		{}, {Op: 8, Actor: 1}, {Op: api.OpRead, Actor: 1, Record: 1, Ward: 1}, seal(6, 1, 2), create(1, text("b", ""), text("a", "")), create(1, temp(float(1<<31))),
		create(1, api.Field{Name: "a", Kind: api.FieldGone}), breakSeal(4, 1, string(make([]byte, 65))), create(1, temp(float(0x7fc00000))),
	}
	for _, r := range formless {
		for at := range len(story()) + 1 {
			l := slices.Insert(story(), at, r)
			var log []api.Event
			for i, a := range record.Answers(people, l) {
				log = append(log, answered(t, 4, i, l[i], a))
			}
			if log[at].Code != api.NoForm {
				t.Fatalf("%+v is answered %d", r, log[at].Code)
			}
			replay(t, "a request without a form", 4, people, log, at)
		}
	}
}

// answered tells what an event of a request would be, also where there is none.
func answered(t testing.TB, width, place int, r api.Request, a api.Answer) api.Event {
	t.Helper()
	told, err := wire.PutAnswer(a)
	if err != nil {
		t.Fatal(err)
	}
	digest := sha256.Sum256(told)
	return api.Event{Place: uint32(place), Request: r, Code: a.Code, Digest: digest[:width]}
}

// TestReplayOfLogsCut anywhere: a beginning is a log, an end is none, nor is one without an event in its midst, or with one twice.
func TestReplayOfLogsCut(t *testing.T) {
	log := logOf(t, 4, more())
	for n := range len(log) + 1 {
		replay(t, "a beginning", 4, people, log[:n], -1)
		if n > 0 && n < len(log) {
			replay(t, "an end", 4, people, log[n:], 0)
		}
	}
	for at := range log[1:] {
		replay(t, "one left out", 4, people, slices.Delete(copied(log), at, at+1), at)
		replay(t, "one twice", 4, people, slices.Insert(copied(log), at, log[at]), at+1)
		about := copied(log)
		about[at], about[at+1] = about[at+1], about[at]
		replay(t, "two about", 4, people, about, at)
		renumbered := slices.Delete(copied(log), at, at+1)
		for i := range renumbered {
			renumbered[i].Place = uint32(i)
		}
		_, bad := replayWord(4, people, renumbered)
		replay(t, "one left out, the places mended", 4, people, renumbered, bad)
	}
}

// TestReplayAsLongAsThereMayBe: at the limit of a log all is well, the event behind it is refused.
func TestReplayAsLongAsThereMayBe(t *testing.T) {
	l := []api.Request{create(1, temp(37))}
	for range api.MaxEvents + 1 {
		l = append(l, read(6, 1, 0))
	}
	var log []api.Event
	for i, a := range record.Answers(people, l) {
		log = append(log, answered(t, 2, i, l[i], a))
	}
	replay(t, "one less than there may be", 2, people, log[:api.MaxEvents-1], -1)
	replay(t, "as many as there may be", 2, people, log[:api.MaxEvents], -1)
	replay(t, "one more", 2, people, log[:api.MaxEvents+1], api.MaxEvents)
	replay(t, "two more", 2, people, log, api.MaxEvents)
}

// TestReplayAnswersAllTheSame: the answers go on behind an event that is not right, and hang on the requests alone.
func TestReplayAnswersAllTheSame(t *testing.T) {
	log := logOf(t, 4, story())
	want := record.Answers(people, story())
	for i := range log {
		log[i].Place, log[i].Code, log[i].Digest = most32-uint32(i), 7, nil
	}
	answers, bad := audit.Replay(4, people, log)
	if bad != 0 || !sameAnswers(answers, want) {
		t.Errorf("P20.4: of a list without a right event: bad is %d, the answers are %+v, want %+v", bad, answers, want)
	}
	if l := answers[16].History; len(l) != 3 || l[2].Event != 4 {
		t.Errorf("P20.4: the history's places are the list's own: %+v", l)
	}
}
