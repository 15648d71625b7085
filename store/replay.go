package store

import (
	"iter"

	"almoner/api"
	"almoner/record"
	"almoner/wal"
	"almoner/wire"
)

// replay takes in what the log holds; false, if that is not such as a store has written.
func (s *Store) replay() bool {
	if s.log.Len() > api.MaxEvents {
		return false
	}
	for payload := range held(s.log) {
		ev, err := wire.GetEvent(payload)
		if err != nil {
			return false
		}
		a, right := s.look(ev)
		if !right {
			return false
		}
		s.keep(ev.Request.Id, payload, a)
	}
	return true
}

// held gives a log's payloads, from the first one on. (The disk of a log that was just opened is on: all can be read. If not, there would be one without bytes, which is no event's.)
func held(l *wal.Log) iter.Seq[[]byte] {
	return func(yield func([]byte) bool) {
		for place := range l.Len() {
			payload, _ := l.At(place)
			if !yield(payload) {
				return
			}
		}
	}
}

// takeBack makes the model anew from the events that there are, where it has done a request that made none.
func (s *Store) takeBack() {
	s.model = record.New(s.staff)
	for place := range s.Len() {
		ev, _ := s.Event(place)
		s.model.Apply(ev.Request, ev.Place)
	}
}
