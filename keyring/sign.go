package keyring

import (
	"bytes"

	"almoner/api"
	"almoner/wire"
)

// Sign tells a head with its signature.
func (r *Ring) Sign(h api.Head) (api.Signed, api.Errno) {
	message, err := wire.PutHead(h)
	if err != nil || len(h.Root) != r.width {
		return api.Signed{}, api.EARG
	}
	b, isBound := r.heads[h.Size]
	if isBound && !bytes.Equal(b.root, h.Root) {
		return api.Signed{}, api.EFORK
	}
	if !isBound {
		if errno := r.bindNew(h, message); errno != api.OK {
			return api.Signed{}, errno
		}
	}
	return r.signed(h, message), api.OK
}

// bindNew binds the next key to a head whose size no bound one has.
func (r *Ring) bindNew(h api.Head, message []byte) api.Errno {
	switch {
	case !r.rises(h.Size):
		return api.EOLD
	case r.Left() == 0:
		return api.EKEYS
	case r.isCutOff:
		return api.EOFF
	}
	return r.bindSafely(h, message)
}

// bindSafely binds the next key to a head if the log takes it: what it refuses is not bound.
func (r *Ring) bindSafely(h api.Head, message []byte) (errno api.Errno) {
	r.bind(h)
	defer func() {
		if errno != api.OK {
			delete(r.heads, h.Size)
			r.isCutOff = errno != api.EFULL && errno != api.ELIMIT // these two write nothing: it may be tried again
		}
	}()
	if _, errno = r.log.Append(message); errno != api.OK {
		return errno
	}
	return r.log.Sync()
}

// signed tells a bound head with the signature of its message by its key.
func (r *Ring) signed(h api.Head, message []byte) api.Signed {
	key := r.heads[h.Size].key
	signature, _ := r.keys.Sign(key, message) // a key that is bound is one of the ring's
	return api.Signed{
		Head:      api.Head{Size: h.Size, Root: bytes.Clone(h.Root)},
		Key:       uint32(key),
		Signature: signature,
	}
}
