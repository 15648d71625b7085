package keyring_test

import (
	"strconv"
	"testing"

	"almoner/api"
	"almoner/disk"
	"almoner/keyring"
)

// begun tells a ring of four keys, so many of which are bound.
func begun(t *testing.T, n int) (r *keyring.Ring, d *disk.Disk, bound []api.Head) {
	t.Helper()
	c := sized(2, 2)
	r, d = fresh(t, c)
	bound = rising(n, 2)
	for key, h := range bound {
		signs(t, c, r, h, key)
	}
	return r, d, bound
}

// isCutOff asks for a ring that signs what was bound, and binds nothing more.
func isCutOff(t *testing.T, what string, r *keyring.Ring, bound []api.Head, next api.Head) {
	t.Helper()
	c := sized(2, 2)
	for key, h := range bound {
		signs(t, c, r, h, key)
		refuses(t, what+", another root", r, head(h.Size, 99), api.EFORK)
		if h.Size > 0 && !isBound(bound, h.Size-1) {
			refuses(t, what+", an old size", r, head(h.Size-1, 1), api.EOLD)
		}
	}
	refuses(t, what+", the same once more", r, next, api.EOFF)
	refuses(t, what+", another root of the same size", r, head(next.Size, 98), api.EOFF)
	refuses(t, what+", a greater one", r, head(next.Size+1, 1), api.EOFF)
	refuses(t, what+", of another width", r, wide(3, next.Size, 1), api.EARG)
	holds(t, what, r, 4-len(bound), bound...)
}

// opensAs opens a ring again, twice, which must have bound such heads; the one that was not told is signed then, by the same key either way.
func opensAs(t *testing.T, what string, d *disk.Disk, bound []api.Head, isThere bool, next api.Head) {
	t.Helper()
	c := sized(2, 2)
	key := len(bound)
	if isThere {
		bound = append(bound, next)
	}
	for range 2 {
		holds(t, what+", opened again", opened(t, c, d), 4-len(bound), bound...)
	}
	r := opened(t, c, d)
	if isThere {
		refuses(t, what+", opened again, another root", r, head(next.Size, 98), api.EFORK)
	} else if key < 3 { // another head may have the key
		r = opened(t, c, copied(t, d))
		signs(t, c, r, head(next.Size, 98), key)
		r = opened(t, c, d)
	}
	signs(t, c, r, next, key)
	if key < 3 {
		signs(t, c, r, head(next.Size+1, 1), key+1)
		signs(t, c, r, next, key)
	} else {
		refuses(t, what+", opened again, all bound", r, head(next.Size+1, 1), api.EKEYS)
	}
}

// copied tells a disk with the same files.
func copied(t *testing.T, d *disk.Disk) *disk.Disk {
	t.Helper()
	other := newDisk(t, 8192)
	for _, name := range d.Names() {
		size, _ := d.Size(name)
		b, _ := d.Read(name, 0, size)
		other.Create(name)
		other.Append(name, b)
		other.Sync(name)
	}
	return other
}

// TestTornAtEachByte arms the disk, so that the write of a head is torn at each byte, and then keeps each number of what was written.
func TestTornAtEachByte(t *testing.T) {
	next := head(500, 7)
	frame := frameAhead + len(bytesOf(t, next))
	for n := range 4 {
		for written := range frame + 2 {
			for _, keep := range []int{-1, 0, 1, 11, 12, 13, frame - 1, frame, frame + 1} {
				r, d, bound := begun(t, n)
				what := strconv.Itoa(n) + " bound, torn behind " + strconv.Itoa(written) + " bytes, " + strconv.Itoa(keep) + " kept"
				used := d.Used()
				d.Arm(1, written)
				refuses(t, what, r, next, api.EOFF)
				isCutOff(t, what, r, bound, next)
				d.Start()
				isCutOff(t, what+", the disk on", r, bound, next)
				if d.Used() != used+min(written, frame) {
					t.Errorf("P13.2: %s: a ring that is cut off has written", what)
				}
				d.Crash(keep)
				isCutOff(t, what+", a crash", r, bound, next)
				d.Start()
				isCutOff(t, what+", on again", r, bound, next)
				opensAs(t, what, d, bound, min(keep, written) >= frame, next)
			}
		}
	}
}

// TestOffWithoutACrash: what the torn write has left is still pending when the ring is opened again.
func TestOffWithoutACrash(t *testing.T) {
	next := head(500, 7)
	frame := frameAhead + len(bytesOf(t, next))
	for written := range frame + 2 {
		r, d, bound := begun(t, 2)
		d.Arm(1, written)
		refuses(t, "torn", r, next, api.EOFF)
		d.Start()
		opened(t, sized(2, 2), d)
		d.Crash(0) // what was opened is safe
		d.Start()
		opensAs(t, "torn behind "+strconv.Itoa(written)+" bytes, no crash", d, bound, written >= frame, next)
	}
}

// TestCrashBetweenAppendAndSync: all of a head is written, and the disk is off ahead of the Sync; then each number of these bytes is kept.
func TestCrashBetweenAppendAndSync(t *testing.T) {
	next := head(500, 7)
	frame := frameAhead + len(bytesOf(t, next))
	for keep := -1; keep <= frame+1; keep++ {
		r, d, bound := begun(t, 1)
		d.Arm(1, 1<<20)
		what := "written whole, " + strconv.Itoa(keep) + " bytes kept"
		refuses(t, what, r, next, api.EOFF)
		isCutOff(t, what, r, bound, next)
		d.Crash(keep)
		d.Start()
		opensAs(t, what, d, bound, keep >= frame, next)
	}
}

// TestEachHeadIsSynced: whatever crashes behind a signature, its key is bound.
func TestEachHeadIsSynced(t *testing.T) {
	c := sized(2, 3)
	r, d := fresh(t, c)
	l := rising(8, 2)
	for key, h := range l {
		want := signs(t, c, r, h, key)
		d.Crash(0)
		if got := signs(t, c, r, h, key); !sameSigned(got, want) {
			t.Error("P13.4: when the disk is off a head is signed another way")
		}
		d.Start()
		r = opened(t, c, d)
		holds(t, "behind a crash", r, 7-key, l[:key+1]...)
		refuses(t, "behind a crash, another root", r, head(h.Size, 99), api.EFORK)
		if got := signs(t, c, r, h, key); !sameSigned(got, want) {
			t.Error("P13.4: behind a crash a head is signed another way")
		}
	}
}

// TestFull: behind EFULL nothing has changed, and the same call, or another one, may be made.
func TestFull(t *testing.T) {
	c := sized(2, 3)
	r, d := fresh(t, c)
	l := rising(8, 2)
	for key, h := range l {
		d.Fill(true)
		was := laid(d)
		for range 2 {
			refuses(t, "full", r, h, api.EFULL)
			refuses(t, "full, another root", r, head(h.Size, 99), api.EFULL)
			refuses(t, "full, a greater one", r, head(h.Size+1, 99), api.EFULL)
		}
		for old := range key {
			signs(t, c, r, l[old], old)
		}
		if laid(d) != was {
			t.Error("P13.2: full, and something is written")
		}
		holds(t, "full, opened again", opened(t, c, d), 8-key, l[:key]...)
		d.Fill(false)
		signs(t, c, r, h, key)
		holds(t, "no longer full", r, 7-key, l[:key+1]...)
	}
	if seen(opened(t, c, d)) != seen(r) {
		t.Error("P13.4: opened again, it tells something else")
	}
}

// TestNoRoom: the disk is full by its bytes, at whatever byte.
func TestNoRoom(t *testing.T) {
	c := sized(2, 2)
	l := rising(4, 2)
	frame := frameAhead + len(bytesOf(t, l[0]))
	for limit := 1; limit < 4*frame+2; limit++ {
		d := newDisk(t, limit)
		r := opened(t, c, d)
		room := limit / frame
		for key := range room {
			signs(t, c, r, l[key], key)
		}
		if room < 4 {
			refuses(t, "no room", r, l[room], api.EFULL)
			refuses(t, "no room, once more", r, l[room], api.EFULL)
		}
		holds(t, "no room", r, 4-room, l[:room]...)
		if seen(opened(t, c, d)) != seen(r) {
			t.Error("P13.4: opened again, it tells something else")
		}
	}
}

// TestRoomAgain: another file had the room.
func TestRoomAgain(t *testing.T) {
	c := sized(2, 2)
	r, d, bound := begun(t, 2)
	d.Create("other")
	d.Append("other", make([]byte, 8192-d.Used()-10))
	refuses(t, "no room", r, head(500, 7), api.EFULL)
	d.Cut("other", 0)
	signs(t, c, r, head(500, 8), 2)
	holds(t, "room again", r, 1, append(bound, head(500, 8))...)
	holds(t, "room again, opened again", opened(t, c, d), 1, append(bound, head(500, 8))...)
}

// TestFullAheadOfTheArmed: an Append that has no room is not the armed one.
func TestFullAheadOfTheArmed(t *testing.T) {
	r, d, bound := begun(t, 1)
	d.Arm(1, 3)
	d.Fill(true)
	refuses(t, "full", r, head(500, 7), api.EFULL)
	d.Fill(false)
	refuses(t, "torn", r, head(500, 7), api.EOFF)
	isCutOff(t, "torn", r, bound, head(500, 7))
}

// TestOtherErrorsCutOff: whatever error it is, but for EFULL and ELIMIT. Another hand has taken the open segment away.
func TestOtherErrorsCutOff(t *testing.T) {
	r, d, bound := begun(t, 2)
	d.Remove("keys.0")
	refuses(t, "no segment", r, head(500, 7), api.ENONE)
	d.Create("keys.0")
	isCutOff(t, "a segment again", r, bound, head(500, 7))
}

// TestOffAndOnUnseen: nobody has asked the ring while the disk was off, so that it is not cut off; all that it had was safe.
func TestOffAndOnUnseen(t *testing.T) {
	c := sized(2, 2)
	r, d, bound := begun(t, 2)
	d.Crash(0)
	for key, h := range bound {
		signs(t, c, r, h, key)
	}
	d.Start()
	signs(t, c, r, head(500, 7), 2)
	holds(t, "off and on", opened(t, c, d), 1, append(bound, head(500, 7))...)
}

// TestBesideOtherLogs: rings and logs of other names on the same disk are not touched.
func TestBesideOtherLogs(t *testing.T) {
	c := sized(2, 1)
	d := newDisk(t, 8192)
	var rings []*keyring.Ring
	names := []string{"keys", "key", "keys.0", "other"}
	for _, name := range names {
		r, e := keyring.Open(c, d, name)
		if e != api.OK {
			t.Fatal(e)
		}
		rings = append(rings, r)
	}
	for key := range 2 {
		for i, r := range rings {
			signs(t, c, r, head(uint32(10*key+i), byte(i)), key)
		}
	}
	for i, name := range names {
		r, e := keyring.Open(c, d, name)
		if e != api.OK {
			t.Fatal(e)
		}
		holds(t, name, r, 0, head(uint32(i), byte(i)), head(uint32(10+i), byte(i)))
		if seen(r) != seen(rings[i]) {
			t.Errorf("R5: the ring %q is another one when it is opened again", name)
		}
	}
}
