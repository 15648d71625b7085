package wire_test

import (
	"bytes"
	"slices"
	"testing"

	"almoner/api"
	"almoner/wire"
)

// roomy makes a list with spare room behind it that is not empty, and tells the whole of it too.
func roomy[T any](spare T, l ...T) (list, all []T) {
	all = append(slices.Clone(l), spare, spare, spare)
	return all[:len(l)], all
}

// scribble writes over a list and its spare room.
func scribble[T any](l []T, v T) {
	l = l[:cap(l)]
	for i := range l {
		l[i] = v
	}
}

// R4: what is handed to PutX is not changed, lists in it and spare room too, and not kept.
func TestPutLeavesWhatIsHandedIn(t *testing.T) {
	other := api.Field{Name: "spare", Kind: 9, Text: "spare", Value: 9, Unit: 9}
	fields, allFields := roomy(other, kept()...)
	digest, allDigest := roomy[byte](77, 1, 2, 3)
	history, allHistory := roomy(api.Summary{Author: 77}, api.Summary{Author: 1, Redacted: true}, api.Summary{Fields: 2})
	one, allOne := roomy[byte](77, 4, 5)
	hashes, allHashes := roomy(allDigest, digest, one)
	request := api.Request{Op: api.OpCreate, Fields: fields}
	event := api.Event{Request: request, Digest: digest}
	answer := api.Answer{Fields: fields, History: history}
	head := api.Head{Root: digest}
	list := []any{request, answer, event, head, api.Signed{Head: head, Signature: one}, api.Proof{Hashes: hashes}, api.Message{Kind: api.MsgGive, Event: event}, api.Message{Kind: api.MsgAnswer, Answer: answer}, api.Message{Kind: api.MsgRequest, Request: request}}
	var told, copies [][]byte
	for _, v := range list {
		b := mustPut(t, v)
		told, copies = append(told, b), append(copies, slices.Clone(b))
	}
	if !slices.Equal(allFields[:len(fields)], kept()) || allFields[len(fields)] != other || !bytes.Equal(allDigest, []byte{1, 2, 3, 77, 77, 77}) || !bytes.Equal(allOne, []byte{4, 5, 77, 77, 77}) {
		t.Error("R4: a list that was handed in is changed:", allFields, allDigest, allOne)
	}
	if !slices.Equal(allHistory, []api.Summary{{Author: 1, Redacted: true}, {Fields: 2}, {Author: 77}, {Author: 77}, {Author: 77}}) || len(allHashes[0]) != 3 || len(allHashes[1]) != 2 || len(allHashes[2]) != 6 {
		t.Error("R4: a list that was handed in is changed:", allHistory, allHashes)
	}
	scribble(fields, api.Field{})
	scribble(digest, 99)
	scribble(history, api.Summary{})
	scribble(one, 99)
	scribble(hashes, nil)
	for i := range told {
		if !bytes.Equal(told[i], copies[i]) {
			t.Errorf("R4: the bytes of %T share memory with it", list[i])
		}
	}
}

// R4: bytes that are told are new each time, spare room too.
func TestToldBytesAreNew(t *testing.T) {
	for _, v := range samples() {
		first, second := mustPut(t, v), mustPut(t, v)
		want := slices.Clone(second)
		scribble(first, 99)
		if !bytes.Equal(second, want) || !bytes.Equal(mustPut(t, v), want) {
			t.Errorf("R4: two answers for %T share memory", v)
		}
	}
}

// R4: the bytes that GetX is handed are not changed, spare room too, and not kept.
func TestGetLeavesWhatIsHandedIn(t *testing.T) {
	for _, v := range samples() {
		k := thingOf(v)
		b, all := roomy[byte](77, mustPut(t, v)...)
		want := slices.Clone(all)
		got, err := k.get(b)
		if err != nil || !bytes.Equal(all, want) {
			t.Errorf("R4: Get%s changes what it is handed: %v", k.name, err)
		}
		scribble(b, 99)
		if !same(got, v) {
			t.Errorf("R4: Get%s keeps what it is handed: %+v, want %+v", k.name, got, v)
		}
	}
}

// R4: no two lists of one answer share memory, spare room too.
func TestReadListsAreApart(t *testing.T) {
	p, err := wire.GetProof(mustPut(t, proofOf(40)))
	if err != nil {
		t.Fatal(err)
	}
	want := proofOf(40).Hashes
	for i := range p.Hashes {
		scribble(p.Hashes[i], 99)
		for k := i + 1; k < len(p.Hashes); k++ {
			if !bytes.Equal(p.Hashes[k], want[k]) {
				t.Fatalf("R4: the hashes %d and %d share memory", i, k)
			}
		}
	}
	signed := api.Signed{Head: api.Head{Root: hash(1, 8)}, Signature: hash(2, 8)}
	b := mustPut(t, signed)
	s, _ := wire.GetSigned(b)
	other, _ := wire.GetSigned(b)
	scribble(s.Head.Root, 99)
	if !bytes.Equal(s.Signature, signed.Signature) || !same(other, signed) {
		t.Error("R4: a root and a signature share memory")
	}
	scribble(s.Signature, 99)
	if !same(other, signed) {
		t.Error("R4: two answers share memory")
	}
	answer := api.Answer{Fields: kept(), History: make([]api.Summary, 3)}
	b = mustPut(t, answer)
	a, _ := wire.GetAnswer(b)
	again, _ := wire.GetAnswer(b)
	scribble(a.Fields, api.Field{})
	scribble(a.History, api.Summary{Author: 9})
	if !same(again, answer) {
		t.Error("R4: two answers share memory")
	}
	event := api.Event{Request: create(kept()...), Digest: hash(1, 8)}
	b = mustPut(t, api.Message{Kind: api.MsgGive, Event: event})
	m, _ := wire.GetMessage(b)
	scribble(m.Event.Request.Fields, api.Field{})
	if !bytes.Equal(m.Event.Digest, event.Digest) {
		t.Error("R4: fields and a digest share memory")
	}
}
