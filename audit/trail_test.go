package audit_test

import (
	"slices"
	"testing"

	"almoner/api"
)

// TestMore: the requests are answered as their remark says, and each that is done or refused has its line.
func TestMore(t *testing.T) {
	want := []uint8{
		api.NoRecord, api.NoActor, api.NotAllowed, api.Done, api.Done,
		api.NoRecord, api.Done, api.Done, api.Done, api.Done, api.IsSealed,
		api.Done, api.IsRedacted, api.NotAllowed, api.NotAllowed, api.Done, api.Done, api.Done, api.NotAllowed, api.Done,
		api.NoActor, api.Done, api.Done, api.Done,
	}
	var got []uint8
	for _, e := range logOf(t, 4, more()) {
		got = append(got, e.Code)
	}
	if !slices.Equal(got, want) {
		t.Errorf("the requests are answered %d, want %d", got, want)
	}
}

func TestTrailOfNothing(t *testing.T) {
	for _, number := range []uint32{0, 1, 2, 1 << 31, most32} {
		trail(t, "nil", nil, number)
		trail(t, "an empty list", []api.Event{}, number)
	}
	trail(t, "zeros", make([]api.Event, 3), 0, 0, 0, 0)
	trail(t, "zeros", make([]api.Event, 3), 1)
}

func TestTrailOfMore(t *testing.T) {
	log := logOf(t, 4, more())
	for number, want := range map[uint32][]uint32{
		0:      {1, 2, 5},                                   // creates that were refused, and one that names none
		1:      {3, 6, 11, 12, 19},                          // made by 3
		2:      {0, 4, 7, 8, 9, 10, 13, 14, 15, 16, 17, 18}, // named ahead of its making, by 4
		3:      {21, 22, 23},
		4:      nil,
		most32: {20},
	} {
		trail(t, "more", log, number, want...)
		for n := range log {
			first := slices.DeleteFunc(slices.Clone(want), func(place uint32) bool { return place >= uint32(n) })
			trail(t, "a beginning", log[:n], number, first...)
		}
	}
}

// TestTrailTellsTheEventsOwnPlaces, in the order of the list: be they none of the list's, the same, very great, falling.
func TestTrailTellsTheEventsOwnPlaces(t *testing.T) {
	for _, places := range [][]uint32{{0, 1, 2, 3}, {3, 2, 1, 0}, {9, 9, 9, 9}, {most32, 0, most32, 1 << 31}, {4095, 4096, 4097, 1 << 20}, {5, 0, 7, 5}} {
		log := []api.Event{event(0, of(api.OpCreate, 1, 0)), event(4, of(api.OpRead, 2, 1)), event(0, of(9, 3, 1)), event(6, of(api.OpCreate, 1, 1))}
		for i := range log {
			log[i].Place = places[i]
		}
		trail(t, "own places", log, 1, places[:3]...)
		trail(t, "own places", log, 0, places[3])
	}
}
