package store

import (
	"bytes"

	"almoner/api"
	"almoner/record"
	"almoner/wire"
)

// Do does a request, if none of its id was done; it tells its event's place and its answer.
func (s *Store) Do(r api.Request) (place int, a api.Answer, again bool, e api.Errno) {
	if place, done := s.Find(r.Id); done {
		a, _ := s.Answer(place)
		return place, a, true, api.OK
	}
	a, e = s.doNew(r)
	if e != api.OK {
		return 0, api.Answer{}, false, e
	}
	return s.Len() - 1, copied(a), false, api.OK
}

// doNew does a request whose id is new; its event is then the last one.
func (s *Store) doNew(r api.Request) (api.Answer, api.Errno) {
	if !record.Formed(r) {
		return api.Answer{}, api.EARG
	}
	if s.isFull() {
		return api.Answer{}, api.ELIMIT
	}
	a, ev := s.try(r)
	e := s.write(ev, a)
	if e != api.OK {
		s.takeBack()
	}
	return a, e
}

// Take takes in the next event of another store's log.
func (s *Store) Take(ev api.Event) api.Errno {
	if uint64(ev.Place) != uint64(s.Len()) {
		return api.EORDER
	}
	if s.isFull() {
		return api.ELIMIT
	}
	e := api.EBROKEN
	if a, right := s.look(ev); right {
		e = s.write(ev, a)
	}
	if e != api.OK {
		s.takeBack()
	}
	return e
}

// look tells whether an event is right behind those that there are, and what its request is answered. The model may have done the request then: where the event is not kept, that is to be taken back.
func (s *Store) look(ev api.Event) (api.Answer, bool) {
	if _, done := s.Find(ev.Request.Id); done || !record.Formed(ev.Request) {
		return api.Answer{}, false
	}
	a, made := s.try(ev.Request)
	return a, ev.Place == made.Place && ev.Code == made.Code && bytes.Equal(ev.Digest, made.Digest)
}

// try lets the model do a request of a form, and tells the answer, and the event that comes next if it is kept.
func (s *Store) try(r api.Request) (api.Answer, api.Event) {
	place := uint32(s.Len())
	a := s.model.Apply(r, place)
	ev, _ := record.Event(s.width, place, r, a) // there is one of whatever the model answers, at a place that may be
	return a, ev
}

// write puts an event that is right into the log. When it is safe there the store has it.
func (s *Store) write(ev api.Event, a api.Answer) api.Errno {
	if s.isCutOff {
		return api.EOFF
	}
	entry, _ := wire.PutEvent(ev) // an event that is right can be told
	_, e := s.log.Append(entry)
	if e == api.OK {
		e = s.log.Sync()
	}
	switch e {
	case api.OK:
		s.keep(ev.Request.Id, entry, a)
	case api.EFULL, api.ELIMIT: // nothing has changed: it may be tried again
	default:
		s.isCutOff = true
	}
	return e
}

// keep has one event more. What it is handed is the store's own from then on.
func (s *Store) keep(id api.Id, entry []byte, a api.Answer) {
	s.places[id] = s.Len()
	s.entries = append(s.entries, entry)
	s.answers = append(s.answers, a)
	s.tree.Add(entry)
}
