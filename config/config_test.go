package config_test

import (
	"math"
	"slices"
	"testing"

	"almoner/api"
	"almoner/config"
)

// ordinary is a Config that may be.
func ordinary() api.Config {
	return api.Config{
		Width: 20, Height: 3, Seed: []byte{1, 2, 3},
		Staff:   []api.Staff{{Actor: 1, Role: api.RoleClerk, Ward: 7}, {Actor: 6, Role: api.RolePatient}},
		Segment: 10000, Disk: 20000,
	}
}

// asks asks for one Config after the other, each the ordinary one with one thing turned.
func asks[T any](t *testing.T, what string, want bool, turn func(c *api.Config, v T), values ...T) {
	t.Helper()
	for _, v := range values {
		c := ordinary()
		turn(&c, v)
		if config.MayBe(c) != want {
			t.Errorf("DOC.md, Words: a Config with %s %v: %v, want %v", what, v, !want, want)
		}
	}
}

func width(c *api.Config, v int)         { c.Width = v }
func height(c *api.Config, v int)        { c.Height = v }
func seed(c *api.Config, v int)          { c.Seed = make([]byte, v) }
func segment(c *api.Config, v int)       { c.Segment = v }
func room(c *api.Config, v int)          { c.Disk = v }
func staff(c *api.Config, v []api.Staff) { c.Staff = v }

func TestMayBe(t *testing.T) {
	asks(t, "Width", true, width, 1, 2, 31, 32)
	asks(t, "Height", true, height, 0, 1, 5, 6)
	asks(t, "a Seed of", true, seed, 1, 2, 63, 64)
	asks(t, "Segment", true, segment, 8192, 8193, 19999, 20000)
	asks(t, "Disk", true, room, 10000, 10001, 1<<20-1, 1<<20)
	asks(t, "Staff", true, staff, nil, []api.Staff{}, []api.Staff{{Actor: 1, Role: 5}}, crowd(64))
}

func TestMayNotBe(t *testing.T) {
	asks(t, "Width", false, width, math.MinInt, -1, 0, 33, 256+1, 1<<32+1, math.MaxInt)
	asks(t, "Height", false, height, math.MinInt, -1, 7, 256, 1<<32, math.MaxInt)
	asks(t, "a Seed of", false, seed, 0, 65, 256+1)
	asks(t, "Segment", false, segment, math.MinInt, -1, 0, 8191, 20001, 1<<20+1, 1<<32+8192, math.MaxInt)
	asks(t, "Disk", false, room, math.MinInt, -1, 0, 8191, 9999, 1<<20+1, 1<<32+20000, math.MaxInt)
	asks(t, "Staff", false, staff, []api.Staff{{Actor: 0, Role: 1}}, []api.Staff{{Actor: 1, Role: 0}}, []api.Staff{{Actor: 1, Role: 6}}, []api.Staff{{Actor: 1, Role: 1}, {Actor: 1, Role: 1}}, []api.Staff{{Actor: 2, Role: 1}, {Actor: 1, Role: 1}}, crowd(65))
	if config.MayBe(api.Config{}) {
		t.Error("DOC.md, Words: the Config of zeros may be")
	}
}

// TestTogether: where Segment and Disk bound each other.
func TestTogether(t *testing.T) {
	for _, x := range []struct {
		segment, disk int
		want          bool
	}{{8192, 8192, true}, {8191, 8191, false}, {8193, 8192, false}, {1 << 20, 1 << 20, true}, {1<<20 + 1, 1<<20 + 1, false}, {8192, 1 << 20, true}, {8191, 8192, false}, {-1, -1, false}, {9, 9, false}} {
		c := ordinary()
		c.Segment, c.Disk = x.segment, x.disk
		if config.MayBe(c) != x.want {
			t.Errorf("DOC.md, Words: Segment %d, Disk %d: %v", x.segment, x.disk, !x.want)
		}
	}
}

// crowd tells so many people.
func crowd(n uint32) []api.Staff {
	var l []api.Staff
	for i := range n {
		l = append(l, api.Staff{Actor: i + 1, Role: i%5 + 1, Ward: i})
	}
	return l
}

func TestNothingIsChanged(t *testing.T) {
	c := ordinary()
	c.Seed = append(c.Seed, 9, 9)[:3]
	c.Staff = append(c.Staff, api.Staff{Actor: 9})[:2]
	config.MayBe(c)
	want := ordinary()
	if !slices.Equal(c.Seed[:5], []byte{1, 2, 3, 9, 9}) || !slices.Equal(c.Staff[:3], append(want.Staff, api.Staff{Actor: 9})) {
		t.Errorf("R4: MayBe changes a list: %+v", c)
	}
}
