package verifier

import (
	"bytes"

	"almoner/api"
	"almoner/lamport"
	"almoner/wire"
)

// signer is all that strangers know of whoever has the keys.
type signer struct {
	w, height int
	public    []byte
}

func newSigner(w, height int, public []byte) (signer, error) {
	if w < 1 || w > api.MaxWidth || height < 0 || height > api.MaxHeight || len(public) != w {
		return signer{}, &refusal{errno: api.EARG}
	}
	return signer{w, height, bytes.Clone(public)}, nil
}

// read tells the signed head of bytes. Whether it holds is asked by check.
func (s signer) read(b []byte) (api.Signed, error) {
	head, err := wire.GetSigned(b)
	if err != nil {
		return api.Signed{}, &refusal{api.EFORM, err}
	}
	if len(head.Head.Root) != s.w {
		return api.Signed{}, &refusal{errno: api.EFORM}
	}
	return head, nil
}

// check tells what is wrong, if one of the heads that were read does not hold.
func (s signer) check(heads ...api.Signed) error {
	for _, head := range heads {
		message, _ := wire.PutHead(head.Head) // wire tells what it has read
		if !lamport.Check(s.w, s.height, s.public, int(head.Key), message, head.Signature) {
			return &refusal{errno: api.ESIG}
		}
	}
	return nil
}
