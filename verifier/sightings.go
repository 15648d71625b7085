package verifier

import "almoner/api"

// sightings are the heads that hold and were seen, as far as they may be asked for again.
type sightings struct{ byKey, bySize map[uint32]firsts }

func newSightings() sightings {
	return sightings{byKey: map[uint32]firsts{}, bySize: map[uint32]firsts{}}
}

// take takes in a head, and tells if it clashes with one that was seen ahead.
func (s sightings) take(head api.Signed) error {
	key, size := head.Key, head.Head.Size
	seen, clashes := s.byKey[key].unlike(head)
	if !clashes {
		seen, clashes = s.bySize[size].unlike(head)
	}
	s.byKey[key] = s.byKey[key].with(head)
	s.bySize[size] = s.bySize[size].with(head)
	if clashes {
		return &refusal{api.EFORK, &clash{seen, head}}
	}
	return nil
}

// firsts are, of the heads that were seen by one key or of one size, the first, and the first that is unlike it: whatever comes, the first one that it is unlike is one of these two.
type firsts []api.Signed

// unlike tells the first one that is unlike a head.
func (f firsts) unlike(head api.Signed) (api.Signed, bool) {
	for _, seen := range f {
		if !sameHead(seen, head) {
			return seen, true
		}
	}
	return api.Signed{}, false
}

// with tells what they are once a head more was seen.
func (f firsts) with(head api.Signed) firsts {
	if len(f) == 0 || len(f) == 1 && !sameHead(f[0], head) {
		return append(f, head)
	}
	return f
}
