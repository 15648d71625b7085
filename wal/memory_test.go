package wal_test

import (
	"bytes"
	"testing"

	"almoner/api"
)

// TestWhatIsHandedInIsNotChangedAndNotKept appends lists with spare room, and then writes over them.
func TestWhatIsHandedInIsNotChangedAndNotKept(t *testing.T) {
	d := made(t, 1000)
	l := opened(t, d, "log", 40)
	var want [][]byte
	for i, n := range []int{3, 0, 28, 29, 5} {
		list := bytes.Repeat([]byte{0xee}, 60)
		copy(list, bytesOf(i, n))
		was := bytes.Clone(list)
		if _, e := l.Append(list[:n]); e == api.OK {
			want = append(want, bytesOf(i, n))
		}
		if !bytes.Equal(list, was) {
			t.Errorf("R4: Append has changed its list, or the room behind it: %v", list)
		}
		for j := range list {
			list[j] = 77
		}
	}
	holds(t, "R4: what was handed in", l, want...)
	l.Sync()
	holds(t, "R4: what was handed in", opened(t, d, "log", 40), want...)
}

// TestAListStaysWhatItIs changes what lies on the disk, under a list that was handed in.
func TestAListStaysWhatItIs(t *testing.T) {
	d := made(t, 1000)
	l := opened(t, d, "log", 40)
	list := []byte{1, 2, 3}
	adds(t, "R4", l, list, 0)
	d.Turn("log.0", 12, 0)
	d.Cut("log.0", 13)
	d.Append("log.0", []byte{9, 9, 9})
	if !bytes.Equal(list, []byte{1, 2, 3}) {
		t.Errorf("R4: the list that was handed in: %v", list)
	}
}

func TestWhatIsToldIsNew(t *testing.T) {
	d := made(t, 1000)
	l := opened(t, d, "log", 40)
	for i := range 4 {
		adds(t, "R4", l, bytesOf(i, 4*i), i)
	}
	was := seen(d)
	for place := range 4 {
		first, _ := l.At(place)
		again, _ := l.At(place)
		for i := range first[:cap(first)] {
			first[:cap(first)][i] = 77
		}
		if !bytes.Equal(again, bytesOf(place, 4*place)) {
			t.Errorf("R4: two answers share memory: %v", again)
		}
	}
	same(t, "R4: At tells new memory", d, was)
	told, _ := l.At(3)
	d.Turn("log.1", 20, 1)
	d.Turn("log.1", 30, 1)
	if !bytes.Equal(told, bytesOf(3, 12)) {
		t.Errorf("R4: what was told has changed: %v", told)
	}

	want := l.Segments()
	list := l.Segments()
	for i := range list[:cap(list)] {
		list[:cap(list)][i] = 77
	}
	sizes(t, "R4: Segments tells new memory", l, want...)
	adds(t, "R4: behind a list that was written over", l, bytesOf(9, 28), 4)
	sizes(t, "R4: behind a list that was written over", l, append(want, 40)...)
}

// TestWhatWasToldDoesNotGrow: a list of sizes stays as it was told.
func TestWhatWasToldDoesNotGrow(t *testing.T) {
	l := opened(t, made(t, 1000), "log", 40)
	adds(t, "R4", l, nil, 0)
	told := l.Segments()
	adds(t, "R4", l, nil, 1)
	if len(told) != 1 || told[0] != 12 {
		t.Errorf("R4: what was told has changed: %v", told)
	}
}
