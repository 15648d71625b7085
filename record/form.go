package record

import (
	"math"

	"almoner/api"
	"almoner/quant"
)

// Formed tells whether a request has a form.
func Formed(r api.Request) bool {
	if r.Op < api.OpCreate || r.Op > api.OpBreak || !isEmpty(unused(r)) {
		return false
	}
	if r.Op == api.OpSeal && r.Version > 1 {
		return false
	}
	return len(r.Reason) <= api.MaxText && areFormed(r.Fields, r.Op == api.OpAmend)
}

// unused tells a request without what its Op uses.
func unused(r api.Request) api.Request {
	switch r.Op {
	case api.OpCreate:
		r.Ward, r.Owner, r.Fields = 0, 0, nil
	case api.OpAmend:
		r.Record, r.Version, r.Fields = 0, 0, nil
	case api.OpRead, api.OpRedact, api.OpSeal:
		r.Record, r.Version = 0, 0
	case api.OpHistory:
		r.Record = 0
	case api.OpBreak:
		r.Record, r.Reason = 0, ""
	}
	return r
}

// isEmpty looks at all that an Op may leave unused: Id and Actor may be any.
func isEmpty(r api.Request) bool {
	return r.Record == 0 && r.Version == 0 && r.Ward == 0 && r.Owner == 0 && len(r.Fields) == 0 && r.Reason == ""
}

// areFormed tells whether a list of fields has a form, in which fields may be taken away or may not.
func areFormed(l []api.Field, mayBeGone bool) bool {
	if len(l) > api.MaxFields {
		return false
	}
	ahead := "" // so that an empty name does not rise
	for _, f := range l {
		if f.Name <= ahead || !isFormed(f) || f.Kind == api.FieldGone && !mayBeGone {
			return false
		}
		ahead = f.Name
	}
	return true
}

// isFormed tells whether a field that has a name has a form.
func isFormed(f api.Field) bool {
	if len(f.Name) > api.MaxText || len(f.Text) > api.MaxText {
		return false
	}
	switch f.Kind {
	case api.FieldText:
		return !hasQuantity(f)
	case api.FieldQuantity:
		return f.Text == "" && isCanon(f.Value) && f.Unit >= 1 && int(f.Unit) <= quant.Units()
	case api.FieldGone:
		return f.Text == "" && !hasQuantity(f)
	}
	return false
}

// hasQuantity looks at the bits of the value: -0 is one that is not 0.
func hasQuantity(f api.Field) bool {
	return math.Float32bits(f.Value) != 0 || f.Unit != 0
}

// isCanon tells whether a value is a number in the one form that it has.
func isCanon(x float32) bool {
	canon, errno := quant.Canon(x)
	return errno == api.OK && math.Float32bits(canon) == math.Float32bits(x)
}
