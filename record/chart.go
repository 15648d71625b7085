package record

import (
	"slices"

	"almoner/api"
	"almoner/policy"
)

// chart is one record.
type chart struct {
	ward, owner uint32
	sealed      bool
	granted     []uint32  // actors, rising
	versions    []version // that of the number n at n - 1
}

// version is one of a record's. Its fields are never written to: they are there, or are gone.
type version struct {
	author, event uint32
	fields        []api.Field
	redacted      bool
}

// has tells whether there is a record of that number.
func (s *State) has(number uint32) bool {
	return number >= 1 && number <= uint32(len(s.charts))
}

// chart tells the record of a number that there is.
func (s *State) chart(number uint32) *chart {
	return &s.charts[number-1]
}

// sheet tells what policy asks of it.
func (c *chart) sheet() policy.Sheet {
	return policy.Sheet{Ward: c.ward, Owner: c.owner, Sealed: c.sealed, Granted: c.granted}
}

// last tells the number of its last version.
func (c *chart) last() uint32 {
	return uint32(len(c.versions))
}

// has tells whether it has a version of that number.
func (c *chart) has(number uint32) bool {
	return number >= 1 && number <= c.last()
}

// version tells the version of a number that it has.
func (c *chart) version(number uint32) *version {
	return &c.versions[number-1]
}

// grant lets an actor in, once.
func (c *chart) grant(actor uint32) {
	at, found := slices.BinarySearch(c.granted, actor)
	if !found {
		c.granted = slices.Insert(c.granted, at, actor)
	}
}

// copied tells another one, with nothing in common.
func (c chart) copied() chart {
	c.granted = slices.Clone(c.granted)
	c.versions = slices.Clone(c.versions)
	for i, v := range c.versions {
		c.versions[i].fields = slices.Clone(v.fields)
	}
	return c
}

// redact takes a version's fields away.
func (v *version) redact() {
	v.fields, v.redacted = nil, true
}

// summary tells it as a history does.
func (v version) summary() api.Summary {
	return api.Summary{Author: v.author, Event: v.event, Fields: uint32(len(v.fields)), Redacted: v.redacted}
}
