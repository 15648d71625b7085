package session

import (
	"math"
	"slices"

	"almoner/api"
)

// ownRequest tells a request with a list of its own.
func ownRequest(r api.Request) api.Request {
	r.Fields = slices.Clone(r.Fields)
	return r
}

// ownAnswer tells an answer with lists of its own.
func ownAnswer(a api.Answer) api.Answer {
	a.Fields, a.History = slices.Clone(a.Fields), slices.Clone(a.History)
	return a
}

// sameAnswer holds two answers of one id against each other. They come from anywhere, and may have no form: so not by wire, which tells bytes of those with a form alone.
func sameAnswer(a, b api.Answer) bool {
	return a.Code == b.Code && a.Record == b.Record && a.Version == b.Version &&
		slices.EqualFunc(a.Fields, b.Fields, sameField) && slices.Equal(a.History, b.History)
}

// sameField holds the values by their bits: 0 and -0 are two, and what is no number is itself.
func sameField(a, b api.Field) bool {
	return a.Name == b.Name && a.Kind == b.Kind && a.Text == b.Text && a.Unit == b.Unit &&
		math.Float32bits(a.Value) == math.Float32bits(b.Value)
}
