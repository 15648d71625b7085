package wire_test

import (
	"bytes"
	"errors"
	"math"
	"reflect"
	"testing"

	"almoner/api"
	"almoner/wire"
)

// thing is one of the seven, with its two calls.
type thing struct {
	name string
	form uint8
	put  func(v any) ([]byte, error)
	get  func(b []byte) (any, error)
	zero any
}

func of[T any](name string, form uint8, put func(T) ([]byte, error), get func([]byte) (T, error)) thing {
	var zero T
	return thing{name, form, func(v any) ([]byte, error) { return put(v.(T)) }, func(b []byte) (any, error) { return get(b) }, zero}
}

func things() []thing {
	return []thing{
		of("Request", 1, wire.PutRequest, wire.GetRequest), of("Answer", 2, wire.PutAnswer, wire.GetAnswer), of("Event", 3, wire.PutEvent, wire.GetEvent),
		of("Head", 4, wire.PutHead, wire.GetHead), of("Signed", 5, wire.PutSigned, wire.GetSigned), of("Proof", 6, wire.PutProof, wire.GetProof),
		of("Message", 7, wire.PutMessage, wire.GetMessage),
	}
}

// thingOf tells which of the seven a value is.
func thingOf(v any) thing {
	for _, k := range things() {
		if reflect.TypeOf(k.zero) == reflect.TypeOf(v) {
			return k
		}
	}
	panic("no thing")
}

// same holds two values against each other: numbers by their bits, a list of none against nil as the same.
func same(a, b any) bool { return sameValue(reflect.ValueOf(a), reflect.ValueOf(b)) }

func sameValue(a, b reflect.Value) bool {
	switch a.Kind() {
	case reflect.Float32:
		return math.Float32bits(float32(a.Float())) == math.Float32bits(float32(b.Float()))
	case reflect.Slice:
		if a.Len() != b.Len() {
			return false
		}
		for i := range a.Len() {
			if !sameValue(a.Index(i), b.Index(i)) {
				return false
			}
		}
		return true
	case reflect.Struct:
		for i := range a.NumField() {
			if !sameValue(a.Field(i), b.Field(i)) {
				return false
			}
		}
		return true
	}
	return a.Equal(b)
}

// isFault tells whether an error is just that fault, as errors.As and errors.Is find it.
func isFault(err error, what string, at int, why error) bool {
	var f *api.Fault
	return errors.As(err, &f) && f.What == what && f.At == at && f.Err == why && errors.Is(err, why)
}

// wantPutFault asks for a fault of PutX, and no bytes beside it.
func wantPutFault(t *testing.T, v any, what string, at int, why error) {
	t.Helper()
	b, err := thingOf(v).put(v)
	if len(b) != 0 || !isFault(err, what, at, why) {
		t.Errorf("P7.2: Put%s(%+v): % d, %v, want {%s, %d, %v}", thingOf(v).name, v, b, err, what, at, why)
	}
}

// wantGetFault asks for a fault of GetX, and the zero thing beside it.
func wantGetFault(t *testing.T, form uint8, b []byte, what string, at int, why error) {
	t.Helper()
	k := things()[form-1]
	v, err := k.get(b)
	if !same(v, k.zero) || !isFault(err, what, at, why) {
		t.Errorf("P7.3: Get%s(% d): %+v, %v, want {%s, %d, %v}", k.name, b, v, err, what, at, why)
	}
}

// wantBoth asks for these bytes of PutX, and for the thing of GetX.
func wantBoth(t *testing.T, v any, want ...byte) {
	t.Helper()
	k := thingOf(v)
	b, err := k.put(v)
	if err != nil || !bytes.Equal(b, want) {
		t.Errorf("P7.2: Put%s(%+v): % d, %v, want % d", k.name, v, b, err, want)
	}
	got, err := k.get(want)
	if err != nil || !same(got, v) {
		t.Errorf("P7.3: Get%s(% d): %+v, %v, want %+v", k.name, want, got, err, v)
	}
}

// mustPut tells the bytes of a thing that has some.
func mustPut(t *testing.T, v any) []byte {
	t.Helper()
	b, err := thingOf(v).put(v)
	if err != nil {
		t.Fatalf("Put%s(%+v): %v", thingOf(v).name, v, err)
	}
	return b
}

// heldPut holds PutX against the words; it tells whether there are bytes.
func heldPut(t *testing.T, v any) bool {
	t.Helper()
	want, fault := laid(rowsOf(v))
	if fault != nil {
		wantPutFault(t, v, fault.What, fault.At, fault.Err)
		return false
	}
	b, err := thingOf(v).put(v)
	if err != nil || !bytes.Equal(b, want) {
		t.Errorf("P7.2: Put%s(%+v): % d, %v, want % d", thingOf(v).name, v, b, err, want)
	}
	return true
}

// heldGet holds GetX against the words, and what it reads against PutX; it tells whether there is a thing.
func heldGet(t *testing.T, form uint8, b []byte) bool {
	t.Helper()
	want, fault := scanned(form, b)
	if fault != nil {
		wantGetFault(t, form, b, fault.What, fault.At, fault.Err)
		return false
	}
	k := things()[form-1]
	v, err := k.get(b)
	if err != nil || !same(v, want) {
		t.Errorf("P7.3: Get%s(% d): %+v, %v, want %+v", k.name, b, v, err, want)
		return true
	}
	if again, err := k.put(v); err != nil || !bytes.Equal(again, b) {
		t.Errorf("P7.4: Put%s of what was read: % d, %v, want % d", k.name, again, err, b)
	}
	return true
}
