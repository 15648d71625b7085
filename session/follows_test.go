package session_test

import (
	"math/rand"
	"slices"
	"testing"

	"almoner/api"
	"almoner/session"
)

// book keeps what was handed in and answered, and asks for P17.6 out of that alone.
type book struct {
	called []api.Id
	first  map[api.Id]string // the first answer that came to a request that was called
}

// holds asks that each called id is in Waiting or in Done, in one of them, and has the first answer that came, or none.
func (b *book) holds(t *testing.T, s *session.Session) {
	t.Helper()
	times := map[api.Id]int{}
	for _, of := range slices.Concat(s.Waiting(), s.Done()) {
		times[of]++
	}
	for _, of := range b.called {
		if times[of] != 1 {
			t.Fatalf("P17.6: %v stands %d times in Waiting %v and Done %v", of, times[of], s.Waiting(), s.Done())
		}
		a, ok := s.Answer(of)
		first, came := b.first[of]
		if ok != came || ok && tellAnswer(a) != first {
			t.Fatalf("P17.6: %v: %s, %v; the first that came is %s", of, tellAnswer(a), ok, first)
		}
		if slices.Contains(s.Done(), of) != ok {
			t.Fatalf("P17.6: %v: answered %v, Done %v", of, ok, s.Done())
		}
	}
	if len(times) != len(b.called) {
		t.Fatalf("P17.6: %d were called; Waiting %v, Done %v", len(b.called), s.Waiting(), s.Done())
	}
}

// TestEachIdHasOneAnswer over many scripts of calls and messages, in which most come more than once, late, or to another client.
func TestEachIdHasOneAnswer(t *testing.T) {
	r := rand.New(rand.NewSource(176))
	for range 300 {
		s := standing(t, 4, 0)
		b := &book{first: map[api.Id]string{}}
		for range 40 {
			if r.Intn(3) == 0 {
				of, _ := s.Call(creates())
				b.called = append(b.called, of)
			}
			of := id(uint32(3+r.Intn(2)), uint32(r.Intn(len(b.called)+2)))
			m := answer(of, uint32(r.Intn(3)))
			if r.Intn(3) == 0 {
				m = busy(of, api.EFULL)
			}
			_, was := b.first[of]
			if s.Take(m) == api.OK && m.Kind == api.MsgAnswer && !was {
				b.first[of] = tellAnswer(m.Answer)
			}
			b.holds(t, s)
		}
	}
}

// TestWhatIsDoubledLateOrOfOthersTurnsNothing: of two sessions that call alike one gets all messages, the other each first answer alone; they are alike, but for refusals.
func TestWhatIsDoubledLateOrOfOthersTurnsNothing(t *testing.T) {
	r := rand.New(rand.NewSource(177))
	for range 200 {
		noisy, quiet := made(t, 2), made(t, 2)
		var old []api.Message
		for calls := uint32(1); calls <= 15; calls++ {
			gets(t, noisy, creates(), id(2, calls))
			gets(t, quiet, creates(), id(2, calls))
			for range r.Intn(4) {
				of := id(2, 1+uint32(r.Intn(int(calls))))
				if _, ok := quiet.Answer(of); !ok && r.Intn(2) == 0 {
					takes(t, noisy, answer(of, calls), api.OK)
					takes(t, quiet, answer(of, calls), api.OK)
					old = append(old, answer(of, calls), busy(of, api.EFULL), answer(of, calls+1))
				}
				if len(old) > 0 {
					noisy.Take(old[r.Intn(len(old))])
				}
				other := answer(of, calls)
				other.Answer.Id.Client = uint32(r.Intn(2))
				noisy.Take(other)
				noisy.Take(answer(id(2, calls+1+uint32(r.Intn(3))), calls))
				noisy.Take(api.Message{Kind: uint8(r.Intn(3)), Id: of, Answer: answer(of, 9).Answer})
			}
			if got, want := seen(noisy), seen(quiet); got != want {
				t.Fatalf("P17.6: with all messages\n%s\nwith the first answers alone\n%s", got, want)
			}
		}
	}
}
