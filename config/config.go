// Package config: which Config may be (DOC.md, "Words"). More than one layer asks it.
package config

import (
	"almoner/api"
	"almoner/policy"
)

const (
	maxSeed    = 64   // bytes
	minSegment = 8192 // bytes: every event fits into a segment
)

// MayBe tells whether a whole system may be made with it.
func MayBe(c api.Config) bool {
	return isWithin(c.Width, 1, api.MaxWidth) &&
		isWithin(c.Height, 0, api.MaxHeight) &&
		isWithin(len(c.Seed), 1, maxSeed) &&
		policy.Valid(c.Staff) &&
		isWithin(c.Segment, minSegment, c.Disk) &&
		isWithin(c.Disk, minSegment, api.MaxDisk)
}

func isWithin(n, least, most int) bool { return least <= n && n <= most }
