package wire

import (
	"cmp"
	"math"

	"almoner/api"
)

// rule tells why a part that is v is wrong, or nil.
type rule[T any] func(v T) error

// firstBroken tells what the first rule says that is broken. So rules stand in the order ErrLong, ErrKind, ErrRange, ErrOrder.
func firstBroken[T any](rules []rule[T], v T) error {
	for _, broken := range rules {
		if why := broken(v); why != nil {
			return why
		}
	}
	return nil
}

// within lets numbers from least to most be.
func within[T cmp.Ordered](least, most T, why error) rule[T] {
	return func(v T) error {
		if v < least || v > most {
			return why
		}
		return nil
	}
}

// sized lets texts and bytes be that have least to most bytes.
func sized[T string | []byte](least, most int) rule[T] {
	return func(v T) error {
		if len(v) > most {
			return api.ErrLong
		}
		if len(v) < least {
			return api.ErrRange
		}
		return nil
	}
}

// above lets texts be that stand behind that one, byte by byte.
func above(ahead string) rule[string] {
	return func(v string) error {
		if v <= ahead {
			return api.ErrOrder
		}
		return nil
	}
}

// unless lets a kind be, if nothing stands beside its parts.
func unless(beside bool) rule[uint8] {
	return func(uint8) error {
		if beside {
			return api.ErrRange
		}
		return nil
	}
}

// limits are the greatest that a request's parts may be; 0 of those that its Op does not use.
type limits struct {
	record, version, ward, owner uint32
	fields, reason               int
	kind                         uint8 // of a field
}

// limitsOf tells the limits of an Op.
func limitsOf(op uint8) limits {
	const all = math.MaxUint32
	switch op {
	case api.OpCreate:
		return limits{ward: all, owner: all, fields: api.MaxFields, kind: api.FieldQuantity}
	case api.OpAmend:
		return limits{record: all, version: all, fields: api.MaxFields, kind: api.FieldGone}
	case api.OpRead, api.OpRedact:
		return limits{record: all, version: all}
	case api.OpHistory:
		return limits{record: all}
	case api.OpSeal:
		return limits{record: all, version: 1}
	case api.OpBreak:
		return limits{record: all, reason: api.MaxText}
	}
	return limits{}
}

// fieldBeside tells whether a field has something beside the parts of its kind.
func fieldBeside(f api.Field) bool {
	switch f.Kind {
	case api.FieldText:
		f.Text = ""
	case api.FieldQuantity:
		f.Value, f.Unit = 0, 0
	}
	return f.Text != "" || math.Float32bits(f.Value) != 0 || f.Unit != 0
}

// messageBeside tells whether a message has something beside the parts of its kind.
func messageBeside(m api.Message) bool {
	switch m.Kind {
	case api.MsgRequest:
		m.Request = api.Request{}
	case api.MsgAsk:
		m.Id = api.Id{}
	case api.MsgAnswer:
		m.Answer = api.Answer{}
	case api.MsgBusy:
		m.Id, m.Code = api.Id{}, 0
	case api.MsgGive:
		m.Event = api.Event{}
	case api.MsgHave:
		m.Length = 0
	}
	return isRequest(m.Request) || m.Id != api.Id{} || isAnswer(m.Answer) || m.Code != 0 || isEvent(m.Event) || m.Length != 0
}

// isRequest tells whether something of it is not 0 or not empty; so do the two below.
func isRequest(q api.Request) bool {
	return q.Id != api.Id{} || q.Actor != 0 || q.Op != 0 || q.Record != 0 || q.Version != 0 || q.Ward != 0 || q.Owner != 0 || len(q.Fields) != 0 || q.Reason != ""
}

func isAnswer(a api.Answer) bool {
	return a.Id != api.Id{} || a.Code != 0 || a.Record != 0 || a.Version != 0 || len(a.Fields) != 0 || len(a.History) != 0
}

func isEvent(e api.Event) bool {
	return e.Place != 0 || isRequest(e.Request) || e.Code != 0 || len(e.Digest) != 0
}
