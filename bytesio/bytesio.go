// Package bytesio: numbers, texts and lists as bytes, and back: see DOC.md, chapter 1.
package bytesio

import "almoner/api"

const (
	minusZero = 1 << 31    // the bits of -0
	exponent  = 0xff << 23 // all of them are set in NaNs and infinities, in no other number
	maxCount  = 1<<32 - 1  // the greatest number that a count's bytes can tell
	countSize = 4          // bytes of a count
)

// isQuantity tells whether these are the bits of a number that a quantity may be.
func isQuantity(bits uint32) bool {
	return bits != minusZero && bits&exponent != exponent
}

// keeper is what a writer and a reader have in common: the name of the part at hand, and the first fault.
type keeper struct {
	name  string
	fault *api.Fault
}

// attempt does the work of one call. Whatever throws a fault in it, however deep, ends that call here; and behind the
// first fault there is no other, because no work is begun any more.
func (k *keeper) attempt(work func()) {
	if k.fault != nil {
		return
	}
	defer func() {
		if f, ok := recover().(*api.Fault); ok {
			k.fault = f
		}
	}()
	work()
}

// throwAt gives up the call that is under way, with a fault at that place.
func (k *keeper) throwAt(place int, why error) {
	panic(k.faultAt(place, why))
}

// faultAt makes the fault that says why, under the name of the part at hand.
func (k *keeper) faultAt(place int, why error) *api.Fault {
	return &api.Fault{What: k.name, At: place, Err: why}
}

// told answers the fault as one of the caller's own: what a caller does to it is not to be seen in later answers.
func (k *keeper) told() error {
	if k.fault == nil {
		return nil
	}
	f := *k.fault
	return &f
}
