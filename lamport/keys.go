package lamport

import (
	"bytes"

	"almoner/api"
	"almoner/merkle"
)

// Keys is a tree of one-time keys.
//
// The secrets and the locks come out of the seed whenever they are asked for: what is kept is the seed, and the tree, which would take all keys' locks to make again.
type Keys struct {
	w, height int
	seed      []byte
	tree      *merkle.Tree
}

// New makes the tree of a seed.
func New(w, height int, seed []byte) (*Keys, api.Errno) {
	if !mayBe(w, height) {
		return nil, api.EARG
	}
	k := &Keys{w, height, bytes.Clone(seed), merkle.New(w)}
	for key := range k.Len() {
		k.tree.Add(entry(w, k.locks(key)))
	}
	return k, api.OK
}

// Len tells how many keys it has.
func (k *Keys) Len() int { return keyCount(k.height) }

// Public tells its public hash.
func (k *Keys) Public() []byte {
	root, _ := k.tree.Root(k.Len())
	return root
}

// Leaf tells the public hash of one key.
func (k *Keys) Leaf(key int) ([]byte, api.Errno) {
	if !isKey(k.height, key) {
		return nil, api.EARG
	}
	return merkle.Leaf(k.w, entry(k.w, k.locks(key))), api.OK
}

// Sign tells the signature of a message by a key. (That a key signs one message alone is the caller's part.)
func (k *Keys) Sign(key int, message []byte) ([]byte, api.Errno) {
	path, errno := k.tree.Path(key, k.Len())
	if errno != api.OK {
		return nil, errno
	}
	valueOf, lockOf := bitsOf(k.w, message), k.locks(key)
	signature := make([]byte, 0, Size(k.w, k.height))
	for bit := range bitCount(k.w) {
		value := valueOf(bit)
		signature = append(signature, Secret(k.w, k.seed, key, bit, value)...)
		signature = append(signature, lockOf(bit, 1-value)...)
	}
	for _, hash := range path {
		signature = append(signature, hash...)
	}
	return signature, api.OK
}

// locks tells the locks of a key.
func (k *Keys) locks(key int) func(bit, value int) []byte {
	return func(bit, value int) []byte {
		return lock(k.w, Secret(k.w, k.seed, key, bit, value))
	}
}
