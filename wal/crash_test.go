package wal_test

import (
	"math"
	"math/rand"
	"slices"
	"testing"

	"almoner/api"
	"almoner/disk"
	"almoner/wal"
)

// sync stands for a Sync in a script, in which numbers from 0 on stand for Appends of so many bytes.
const sync = -1

// played is what a script has come to.
type played struct {
	d        *disk.Disk
	appended [][]byte // the torn one too
	safe     int      // how many were, behind the last call that was done
}

// play plays a script, on a disk that is armed, if n is above 0, up to where it goes off.
func play(t *testing.T, script []int, size, n, b int) played {
	t.Helper()
	x := played{d: made(t, 1<<16)}
	l := opened(t, x.d, "log", size)
	if n > 0 {
		wants(t, "Arm", x.d.Arm(n, b), api.OK)
	}
	for i, step := range script {
		if step == sync {
			wants(t, "Sync", l.Sync(), api.OK)
			x.safe = l.Synced()
			continue
		}
		p := bytesOf(i, step)
		x.appended = append(x.appended, p)
		if _, e := l.Append(p); e != api.OK {
			wants(t, "P9.2: a torn Append", e, api.EOFF)
			break
		}
		x.safe = l.Synced()
	}
	return x
}

// wholeOnes tells how many frames, one behind the other, lie in so many bytes.
func wholeOnes(payloads [][]byte, bytes int) int {
	for i, p := range payloads {
		if bytes -= 12 + len(p); bytes < 0 {
			return i
		}
	}
	return len(payloads)
}

// recovers opens the log of a disk that is on again, twice, and fails, if it has not what it should have.
func (x played) recovers(t *testing.T, size int) {
	t.Helper()
	n := wholeOnes(x.appended, x.d.Used())
	if n < x.safe {
		t.Fatalf("P9.5: %d payloads were safe, and %d are left", x.safe, n)
	}
	for range 2 {
		l, e := wal.Open(x.d, "log", size)
		if e != api.OK {
			t.Fatalf("P9.5: Open answered %d", e)
		}
		holds(t, "P9.5: as many as have their frames there", l, x.appended[:n]...)
		counts(t, "P9.1: all of them are safe", l, n, n)
		if x.d.Pending() != 0 {
			t.Fatalf("P9.1: %d bytes are pending behind Open", x.d.Pending())
		}
	}
	l := opened(t, x.d, "log", size)
	adds(t, "P9.2: behind a recovery", l, []byte{42}, n)
	holds(t, "P9.2: behind a recovery", opened(t, x.d, "log", size), append(slices.Clone(x.appended[:n]), []byte{42})...)
}

// scripts tells all of so many steps, out of some.
func scripts(n int, steps ...int) [][]int {
	if n == 0 {
		return [][]int{nil}
	}
	var l [][]int
	for _, s := range scripts(n-1, steps...) {
		for _, step := range steps {
			l = append(l, append(slices.Clone(s), step))
		}
	}
	return l
}

// TestEachCrash lets each of many scripts end with a crash that keeps each number of bytes.
func TestEachCrash(t *testing.T) {
	for _, script := range scripts(5, sync, 0, 5, 18) {
		all := play(t, script, 30, 0, 0).d.Pending()
		for keep := -1; keep <= all+1; keep++ {
			x := play(t, script, 30, 0, 0)
			x.d.Crash(keep)
			x.d.Start()
			x.recovers(t, 30)
		}
	}
}

// TestEachTornAppend lets each Append of many scripts be torn at each byte; with the bytes left pending, or a crash behind it.
func TestEachTornAppend(t *testing.T) {
	for _, script := range scripts(3, sync, 0, 5, 18) {
		appends := 0
		for _, step := range script {
			if step != sync {
				appends++
			}
		}
		for n := 1; n <= appends; n++ {
			for b := range 32 {
				x := play(t, script, 30, n, b)
				pending := x.d.Pending()
				x.d.Start()
				x.recovers(t, 30)
				for keep := range pending + 1 {
					x = play(t, script, 30, n, b)
					x.d.Crash(keep)
					x.d.Start()
					x.recovers(t, 30)
				}
			}
		}
	}
}

// TestAnyRecoveries lets a log crash again and again, in any way, and holds it against all that was ever appended.
func TestAnyRecoveries(t *testing.T) {
	r := rand.New(rand.NewSource(910))
	for range 400 {
		size := 16 + r.Intn(80)
		d := made(t, 1<<16)
		var have [][]byte
		for range 12 {
			l, e := wal.Open(d, "log", size)
			if e != api.OK {
				t.Fatalf("P9.5: Open answered %d", e)
			}
			holds(t, "P9.5: what was found", l, have...)
			have = anyLife(t, r, d, l, size, have)
			d.Start()
		}
	}
}

// anyLife appends to a log and syncs it till its disk goes off, and tells what is left.
func anyLife(t *testing.T, r *rand.Rand, d *disk.Disk, l *wal.Log, size int, have [][]byte) [][]byte {
	if r.Intn(2) == 0 {
		d.Arm(1+r.Intn(8), r.Intn(size+1))
	}
	safe := len(have)
	for range r.Intn(12) {
		if r.Intn(4) == 0 {
			l.Sync()
			safe = l.Synced()
		}
		p := bytesOf(r.Intn(1000), r.Intn(size-11))
		d.Fill(r.Intn(9) == 0)
		at, e := l.Append(p)
		d.Fill(false)
		if e == api.EFULL {
			continue
		}
		if e == api.OK && at != len(have) {
			t.Fatalf("P9.2: the place %d, want %d", at, len(have))
		}
		have = append(have, p)
		if e == api.EOFF {
			break
		}
		safe = max(safe, l.Synced())
	}
	if !d.Off() || r.Intn(2) == 0 {
		keep := []int{r.Intn(d.Pending() + 1), r.Intn(d.Pending() + 1), 0, -1, math.MinInt, math.MaxInt}[r.Intn(6)]
		d.Crash(keep)
	}
	left := wholeOnes(have, d.Used())
	if left < safe {
		t.Fatalf("P9.5: %d were safe, %d are left", safe, left)
	}
	return have[:left]
}
