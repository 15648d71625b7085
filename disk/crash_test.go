package disk_test

import (
	"math"
	"math/rand"
	"slices"
	"testing"

	"almoner/api"
	"almoner/disk"
)

func TestArmRefused(t *testing.T) {
	d := made(t, 100, "a")
	for _, bad := range [][2]int{{0, 0}, {-1, 0}, {math.MinInt, 3}, {1, -1}, {1, math.MinInt}, {0, -1}, {math.MaxInt, -1}} {
		wants(t, "P8.4: Arm", d.Arm(bad[0], bad[1]), api.EARG)
	}
	wants(t, "R3: an Arm that was refused", d.Append("a", []byte{1}), api.OK)
	wants(t, "P8.4: Arm", d.Arm(1, 0), api.OK)
	wants(t, "P8.4: an Arm that may not be, behind one", d.Arm(0, 5), api.EARG)
	wants(t, "R3: the one ahead stands", d.Append("a", []byte{2, 3}), api.EOFF)
	d.Start()
	holds(t, "R3: the one ahead stands", d, "a", 0, 1)
}

// TestArmTearsTheNth lets each of the first Appends be torn, at each byte.
func TestArmTearsTheNth(t *testing.T) {
	for n := 1; n <= 4; n++ {
		for _, b := range []int{0, 1, 2, 3, 4, 100, math.MaxInt} {
			d := made(t, 100, "a")
			d.Append("a", []byte{9})
			wants(t, "P8.4: Arm", d.Arm(n, b), api.OK)
			want := []byte{9}
			for i := 1; i < n; i++ {
				wants(t, "P8.4: ahead of the armed one", d.Append("a", []byte{byte(i)}), api.OK)
				want = append(want, byte(i))
			}
			if d.Off() {
				t.Fatal("P8.4: off ahead of the armed one")
			}
			wants(t, "P8.4: the armed one", d.Append("a", []byte{21, 22, 23}), api.EOFF)
			want = append(want, []byte{21, 22, 23}[:min(b, 3)]...)
			if !d.Off() {
				t.Error("P8.4: not off behind the armed one")
			}
			counts(t, "P8.4: a torn one is counted", d, len(want), len(want), n+1)
			d.Start()
			holds(t, "P8.4: what is written of the armed one", d, "a", 0, want...)
			wants(t, "P8.4: an Arm comes once", d.Append("a", []byte{30}), api.OK)
			wants(t, "P8.4: an Arm comes once", d.Append("a", []byte{31}), api.OK)
			holds(t, "P8.4: behind the armed one", d, "a", 0, append(want, 30, 31)...)
		}
	}
}

func TestArmCountsWritesAlone(t *testing.T) {
	d := made(t, 6, "a", "b")
	d.Arm(3, 1)
	wants(t, "P8.4: none of that name", d.Append("c", nil), api.ENONE)
	wants(t, "P8.4: no room", d.Append("a", make([]byte, 7)), api.EFULL)
	d.Fill(true)
	wants(t, "P8.4: no room", d.Append("a", nil), api.EFULL)
	d.Fill(false)
	wants(t, "P8.4: the first", d.Append("a", nil), api.OK)
	wants(t, "P8.4: the second, of another file", d.Append("b", []byte{1}), api.OK)
	d.Sync("b")
	d.Create("c")
	d.Remove("c")
	d.Turn("b", 0, 0)
	wants(t, "P8.4: a whole that has no room is not torn", d.Append("a", make([]byte, 6)), api.EFULL)
	wants(t, "P8.4: the third", d.Append("a", []byte{2, 3, 4, 5, 6}), api.EOFF)
	counts(t, "P8.4: Writes", d, 2, 1, 3)
	wants(t, "P8.4: Append while it is off", d.Append("a", nil), api.EOFF)
	counts(t, "P8.4: an Append while it is off is no write", d, 2, 1, 3)
}

func TestArmOfNothing(t *testing.T) {
	for _, b := range []int{0, 1} {
		d := made(t, 10, "a")
		d.Arm(1, b)
		wants(t, "P8.4: an armed write of nothing", d.Append("a", nil), api.EOFF)
		if !d.Off() {
			t.Error("P8.4: not off behind an armed write of nothing")
		}
		counts(t, "P8.4: an armed write of nothing", d, 0, 0, 1)
	}
}

func TestInThePlaceOfAnArm(t *testing.T) {
	d := made(t, 100, "a")
	d.Arm(1, 2)
	d.Arm(2, 1)
	wants(t, "P8.4: a new Arm", d.Append("a", []byte{1, 2, 3}), api.OK)
	wants(t, "P8.4: a new Arm", d.Append("a", []byte{4, 5, 6}), api.EOFF)
	d.Start()
	holds(t, "P8.4: a new Arm", d, "a", 0, 1, 2, 3, 4)

	d.Arm(3, 0)
	d.Append("a", nil)
	d.Append("a", nil)
	d.Arm(3, 0)
	wants(t, "P8.4: it counts from now on", d.Append("a", nil), api.OK)
	wants(t, "P8.4: it counts from now on", d.Append("a", nil), api.OK)
	wants(t, "P8.4: it counts from now on", d.Append("a", nil), api.EOFF)
	d.Start()

	d.Arm(1, 0)
	d.Crash(100)
	d.Start()
	for range 3 {
		wants(t, "P8.4: a Crash has taken its place", d.Append("a", []byte{7}), api.OK)
	}
	d.Arm(2, 0)
	d.Start()
	d.Start()
	wants(t, "P8.4: a Start leaves it", d.Append("a", nil), api.OK)
	wants(t, "P8.4: a Start leaves it", d.Append("a", []byte{8}), api.EOFF)
	d.Crash(0)
	d.Start()
	holds(t, "P8.4: behind all", d, "a", 4, 1, 2, 3, 4)
}

func TestWhatATornWriteLeaves(t *testing.T) {
	torn := func() *disk.Disk {
		d := made(t, 100, "a", "b")
		d.Append("b", []byte{1})
		d.Arm(1, 2)
		d.Append("a", []byte{2, 3, 4})
		counts(t, "P8.7: it is pending while it is off", d, 3, 3, 2)
		d.Start()
		counts(t, "P8.7: it is pending behind Start", d, 3, 3, 2)
		return d
	}
	d := torn()
	holds(t, "P8.7: behind Start", d, "a", 0, 2, 3)
	d.Append("b", []byte{5})
	d.Crash(2)
	d.Start()
	holds(t, "P8.7: until a Crash", d, "a", 1, 2)
	holds(t, "P8.7: until a Crash", d, "b", 1, 1)

	d = torn()
	wants(t, "P8.7: Sync", d.Sync("a"), api.OK)
	holds(t, "P8.7: until a Sync", d, "a", 2, 2, 3)
	d.Crash(0)
	d.Start()
	holds(t, "P8.7: behind a Sync and a Crash", d, "a", 2, 2, 3)
	holds(t, "P8.7: behind a Crash", d, "b", 0)

	d = made(t, 100, "a")
	d.Arm(1, 2)
	d.Append("a", []byte{2, 3, 4})
	d.Crash(1)
	d.Start()
	holds(t, "P8.7: a Crash while it is off", d, "a", 1, 2)
	counts(t, "P8.7: a Crash while it is off", d, 1, 0, 1)
}

func TestCrashKeepsABeginning(t *testing.T) {
	writes := []struct {
		name string
		b    []byte
	}{{"a", []byte{1, 2}}, {"b", []byte{3}}, {"a", []byte{4, 5, 6}}, {"c", nil}, {"a", []byte{7}}, {"c", []byte{8, 9}}, {"b", []byte{10, 11}}}
	for _, keep := range []int{math.MinInt, -1, 0, 1, 2, 3, 4, 5, 6, 7, 8, 9, 10, 11, 12, math.MaxInt} {
		d := made(t, 100, "b", "a", "c")
		d.Append("c", []byte{100})
		d.Sync("c")
		want := map[string][]byte{"c": {100}}
		for _, w := range writes {
			d.Append(w.name, w.b)
			for _, x := range w.b {
				if int(x) <= keep {
					want[w.name] = append(want[w.name], x)
				}
			}
		}
		d.Crash(keep)
		if !d.Off() {
			t.Error("P8.7: not off behind a Crash")
		}
		counts(t, "P8.7: behind a Crash", d, 1+min(max(keep, 0), 11), 0, 8)
		d.Start()
		if d.Off() {
			t.Error("P8.7: off behind Start")
		}
		for _, name := range []string{"a", "b", "c"} {
			holds(t, "P8.7: behind a Crash", d, name, len(want[name]), want[name]...)
		}
	}
}

// TestCrashBehindSyncCutRemove asks which bytes are the first ones, when others of them went.
func TestCrashBehindSyncCutRemove(t *testing.T) {
	d := made(t, 100, "a", "b", "c")
	d.Append("a", []byte{1, 2, 3})
	d.Append("b", []byte{4, 5})
	d.Append("c", []byte{6, 7})
	d.Append("a", []byte{8, 9})
	d.Append("b", []byte{10})
	d.Cut("a", 4) // 9 goes
	d.Cut("b", 1) // 5 and 10 go
	d.Append("b", []byte{11})
	d.Sync("c")
	d.Append("c", []byte{12})
	d.Append("a", []byte{13})
	counts(t, "P8.7: 1 2 3 4 8 11 12 13 are pending", d, 10, 8, 8)
	d.Remove("c") // 6 7 12
	counts(t, "P8.7: 1 2 3 4 8 11 13 are pending", d, 7, 7, 8)
	d.Crash(6)
	d.Start()
	holds(t, "P8.7: 1 2 3 4 8 11 stay", d, "a", 4, 1, 2, 3, 8)
	holds(t, "P8.7: 1 2 3 4 8 11 stay", d, "b", 2, 4, 11)
}

func TestCutToWhatIsSafeAndBelow(t *testing.T) {
	for n, want := range [][]byte{{}, {1}, {1, 2}, {1, 2}, {1, 2}} {
		d := made(t, 100, "a", "b")
		d.Append("a", []byte{1, 2})
		d.Sync("a")
		d.Append("a", []byte{3, 4})
		d.Cut("a", n)
		d.Append("b", []byte{5})
		d.Append("a", []byte{6})
		d.Crash(max(n-2, 0) + 1) // what is left of 3 4, and 5
		d.Start()
		holds(t, "P8.7: what was written behind a Cut comes last", d, "b", 1, 5)
		holds(t, "P8.7: what was written behind a Cut comes last", d, "a", n, append(slices.Clone(want), []byte{3, 4}[:max(n-2, 0)]...)...)
	}
}

func TestCrashAndStartWhateverItIs(t *testing.T) {
	d := made(t, 100, "a")
	d.Append("a", []byte{1, 2, 3})
	d.Start()
	holds(t, "P8.7: Start of one that is on", d, "a", 0, 1, 2, 3)
	d.Crash(2)
	d.Crash(0)
	d.Crash(100)
	counts(t, "P8.7: Crash again: all are safe by then", d, 2, 0, 1)
	d.Start()
	holds(t, "P8.7: Crash again", d, "a", 2, 1, 2)
	d.Append("a", []byte{4})
	d.Crash(-5)
	d.Start()
	d.Append("a", []byte{5})
	d.Crash(1)
	d.Start()
	holds(t, "P8.7: bytes of a later life", d, "a", 3, 1, 2, 5)
}

// TestWhileItIsOff asks for all that does what it says also then.
func TestWhileItIsOff(t *testing.T) {
	d := made(t, 100, "b", "a")
	d.Append("b", []byte{1, 2})
	d.Sync("b")
	d.Arm(1, 1)
	d.Append("a", []byte{3, 4})
	named(t, "P8.6: while it is off", d, "a", "b")
	counts(t, "P8.6: while it is off", d, 3, 1, 2)
	if !d.Off() {
		t.Error("P8.6: Off")
	}
	d.Crash(0)
	named(t, "P8.6: Crash while it is off", d, "a", "b")
	counts(t, "P8.6: Crash while it is off", d, 2, 0, 2)
	d.Fill(true)
	d.Start()
	if d.Off() {
		t.Error("P8.6: Start while it is off")
	}
	wants(t, "P8.6: Fill while it is off", d.Append("a", nil), api.EFULL)
}

// TestWhatFollowsOfACrash holds P8.8 without the words' disk: each byte's value is its place in the order.
func TestWhatFollowsOfACrash(t *testing.T) {
	r := rand.New(rand.NewSource(88))
	names := []string{"a", "b", "c", "d"}
	for range 3000 {
		d := made(t, 150, names...)
		next := byte(0)
		for range r.Intn(40) {
			name := names[r.Intn(len(names))]
			switch r.Intn(8) {
			case 0:
				d.Sync(name)
			case 1:
				n, _ := d.Size(name)
				d.Cut(name, n-min(n, r.Intn(3)))
			case 2:
				d.Remove(name)
				d.Create(name)
			default:
				b := make([]byte, r.Intn(5))
				for i := range b {
					b[i] = next
					next++
				}
				d.Append(name, b)
			}
			if d.Used() > 150 {
				t.Fatal("P8.8: more used than the limit")
			}
		}
		k := r.Intn(d.Pending() + 1)
		safe, pending := map[string][]byte{}, map[string][]byte{}
		for _, name := range names {
			n, _ := d.Size(name)
			s, _ := d.Synced(name)
			safe[name], _ = d.Read(name, 0, s)
			pending[name], _ = d.Read(name, s, n-s)
		}
		d.Crash(k)
		d.Start()
		stays, firstGone, lastKept := 0, 1000, -1
		for _, name := range names {
			n, _ := d.Size(name)
			m := n - len(safe[name])
			if m < 0 || m > len(pending[name]) {
				t.Fatalf("P8.8: %d bytes, of %d safe and %d pending ones", n, len(safe[name]), len(pending[name]))
			}
			holds(t, "P8.8: behind a Crash", d, name, n, append(safe[name], pending[name][:m]...)...)
			stays += m
			for _, x := range pending[name][:m] {
				lastKept = max(lastKept, int(x))
			}
			for _, x := range pending[name][m:] {
				firstGone = min(firstGone, int(x))
			}
		}
		if stays != k || lastKept > firstGone {
			t.Fatalf("P8.8: Crash(%d): %d stay, the last of them %d, the first that is gone %d", k, stays, lastKept, firstGone)
		}
	}
}

// TestWhatIsSafeStays lets come whatever may, but Cut, Remove and Turn.
func TestWhatIsSafeStays(t *testing.T) {
	r := rand.New(rand.NewSource(8))
	for range 300 {
		d := made(t, 120, "a", "b")
		var safe []byte
		for step := range 60 {
			name := []string{"a", "b"}[r.Intn(2)]
			switch r.Intn(9) {
			case 0:
				d.Crash(r.Intn(9) - 2)
			case 1, 2:
				d.Start()
			case 3:
				d.Fill(r.Intn(2) == 0)
			case 4:
				d.Arm(r.Intn(3), r.Intn(4)-1)
			case 5:
				d.Sync(name)
			case 6:
				d.Create("c")
			default:
				d.Append(name, []byte{byte(step), byte(r.Intn(256))})
			}
			if d.Off() {
				continue
			}
			s, _ := d.Synced("a")
			now, e := d.Read("a", 0, s)
			if e != api.OK || len(now) < len(safe) || !slices.Equal(now[:len(safe)], safe) {
				t.Fatalf("P8.8: %v are safe, that were %v", now, safe)
			}
			safe = now
		}
	}
}
