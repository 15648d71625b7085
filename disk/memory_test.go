package disk_test

import (
	"bytes"
	"testing"

	"almoner/api"
	"almoner/disk"
)

// TestWhatIsHandedInIsNotChangedAndNotKept appends a list with spare room, and then writes over it.
func TestWhatIsHandedInIsNotChangedAndNotKept(t *testing.T) {
	d := made(t, 100, "a")
	for i := range 3 {
		list := bytes.Repeat([]byte{0xee}, 20)
		copy(list, []byte{1, 2, 3})
		if i == 2 {
			d.Arm(1, 2)
		}
		d.Append("a", list[:3])
		if !bytes.Equal(list, append([]byte{1, 2, 3}, bytes.Repeat([]byte{0xee}, 17)...)) {
			t.Errorf("R4: Append has changed its list: %v", list)
		}
		for j := range list {
			list[j] = 77
		}
	}
	d.Start()
	holds(t, "R4: what was handed in", d, "a", 0, 1, 2, 3, 1, 2, 3, 1, 2)
}

// TestAListStaysWhatItIs appends behind and turns bits under a list that was handed in.
func TestAListStaysWhatItIs(t *testing.T) {
	d := made(t, 100, "a")
	list := []byte{1, 2, 3}
	d.Append("a", list)
	d.Turn("a", 0, 7)
	d.Cut("a", 1)
	d.Append("a", []byte{9, 9, 9})
	d.Remove("a")
	if !bytes.Equal(list, []byte{1, 2, 3}) {
		t.Errorf("R4: the list that was handed in: %v", list)
	}
}

func TestWhatIsToldIsNew(t *testing.T) {
	d := made(t, 100, "a", "b")
	d.Append("a", []byte{1, 2, 3, 4})
	first, _ := d.Read("a", 1, 2)
	again, _ := d.Read("a", 1, 2)
	for i := range first[:cap(first)] {
		first[:cap(first)][i] = 77
	}
	if !bytes.Equal(again, []byte{2, 3}) {
		t.Errorf("R4: two answers share memory: %v", again)
	}
	holds(t, "R4: Read tells new memory", d, "a", 0, 1, 2, 3, 4)
	d.Turn("a", 1, 0)
	d.Cut("a", 1)
	if !bytes.Equal(again, []byte{2, 3}) {
		t.Errorf("R4: what was told has changed: %v", again)
	}

	empty, _ := d.Read("a", 0, 0)
	for i := range empty[:cap(empty)] {
		empty[:cap(empty)][i] = 77
	}
	holds(t, "R4: Read of nothing tells new memory", d, "a", 0, 1)

	names := d.Names()
	for i := range names[:cap(names)] {
		names[:cap(names)][i] = "x"
	}
	named(t, "R4: Names tells new memory", d, "a", "b")
}

// TestWhatIsGoneDoesNotComeBack appends where other bytes have been.
func TestWhatIsGoneDoesNotComeBack(t *testing.T) {
	d := made(t, 100, "a")
	d.Append("a", []byte{1, 2, 3, 4, 5, 6})
	d.Cut("a", 2)
	d.Append("a", []byte{7})
	d.Crash(3)
	d.Start()
	holds(t, "P8.2: behind a Cut", d, "a", 3, 1, 2, 7)
	d.Remove("a")
	d.Create("a")
	d.Append("a", nil)
	holds(t, "P8.2: behind a Remove", d, "a", 0)
}

// TestTwoDisksHaveNothingInCommon lets one of two go through all, and looks at the other.
func TestTwoDisksHaveNothingInCommon(t *testing.T) {
	var both [2]*disk.Disk
	for i := range both {
		both[i] = made(t, 50, "a")
		both[i].Append("a", []byte{1, 2, 3})
	}
	d := both[0]
	d.Turn("a", 0, 3)
	d.Sync("a")
	d.Create("b")
	d.Append("b", make([]byte, 47))
	d.Cut("a", 1)
	d.Fill(true)
	d.Arm(1, 1)
	other := both[1]
	counts(t, "R5: another disk", other, 3, 3, 1)
	named(t, "R5: another disk", other, "a")
	holds(t, "R5: another disk", other, "a", 0, 1, 2, 3)
	wants(t, "R5: another disk is not full, nor armed", other.Append("a", []byte{4}), api.OK)
	d.Remove("a")
	d.Crash(0)
	if other.Off() {
		t.Error("R5: another disk is off")
	}
	holds(t, "R5: another disk", other, "a", 0, 1, 2, 3, 4)
}
