package wire

import (
	"almoner/api"
	"almoner/quant"
)

// The forms' numbers.
const (
	formRequest = iota + 1
	formAnswer
	formEvent
	formHead
	formSigned
	formProof
	formMessage
)

const maxSignature = 32768 // bytes

// whole goes along a thing's form and its parts.
func (c *codec) whole(thing any) {
	switch v := thing.(type) {
	case *api.Request:
		c.form(formRequest)
		c.request(v)
	case *api.Answer:
		c.form(formAnswer)
		c.answer(v)
	case *api.Event:
		c.form(formEvent)
		c.event(v)
	case *api.Head:
		c.form(formHead)
		c.head(v)
	case *api.Signed:
		c.form(formSigned)
		c.signed(v)
	case *api.Proof:
		c.form(formProof)
		c.proof(v)
	case *api.Message:
		c.form(formMessage)
		c.message(v)
	}
}

func (c *codec) form(form uint8) {
	v := form
	number(c, "form", &v, within(form, form, api.ErrKind))
}

func (c *codec) id(v *api.Id) {
	number(c, "client", &v.Client)
	number(c, "number", &v.Number)
}

func (c *codec) request(v *api.Request) {
	c.id(&v.Id)
	number(c, "actor", &v.Actor)
	number(c, "op", &v.Op, within[uint8](api.OpCreate, api.OpBreak, api.ErrKind))
	most := limitsOf(v.Op)
	number(c, "record", &v.Record, within(0, most.record, api.ErrRange))
	number(c, "version", &v.Version, within(0, most.version, api.ErrRange))
	number(c, "ward", &v.Ward, within(0, most.ward, api.ErrRange))
	number(c, "owner", &v.Owner, within(0, most.owner, api.ErrRange))
	c.fields(&v.Fields, most.kind, within(0, most.fields, api.ErrRange))
	run(c, "reason", &v.Reason, 0, api.MaxText, func(s string) error {
		return within(0, most.reason, api.ErrRange)(len(s))
	})
}

// fields goes along fields of the kinds up to last.
func (c *codec) fields(v *[]api.Field, last uint8, rules ...rule[int]) {
	ahead := "" // no name is empty: so the first one is above it
	list(c, "fields", v, api.MaxFields, func(f *api.Field) {
		run(c, "name", &f.Name, 1, api.MaxText, above(ahead))
		c.field(f, last)
		ahead = f.Name
	}, rules...)
}

// field goes along what a field has behind its name.
func (c *codec) field(v *api.Field, last uint8) {
	number(c, "kind", &v.Kind, within(api.FieldText, last, api.ErrKind), unless(fieldBeside(*v)))
	switch v.Kind {
	case api.FieldText:
		run(c, "text", &v.Text, 0, api.MaxText)
	case api.FieldQuantity:
		number(c, "value", &v.Value)
		number(c, "unit", &v.Unit, within(1, uint8(quant.Units()), api.ErrRange))
	}
}

func (c *codec) answer(v *api.Answer) {
	c.id(&v.Id)
	c.code(&v.Code)
	number(c, "record", &v.Record)
	number(c, "version", &v.Version)
	c.fields(&v.Fields, api.FieldQuantity)
	list(c, "history", &v.History, api.MaxVersions, c.summary)
}

func (c *codec) code(v *uint8) {
	number(c, "code", v, within[uint8](api.Done, api.BadUnit, api.ErrKind))
}

func (c *codec) summary(v *api.Summary) {
	number(c, "author", &v.Author)
	number(c, "event", &v.Event)
	number(c, "many", &v.Fields)
	var gone uint8
	if v.Redacted {
		gone = 1
	}
	number(c, "gone", &gone, within[uint8](0, 1, api.ErrRange))
	v.Redacted = gone == 1
}

func (c *codec) event(v *api.Event) {
	number(c, "place", &v.Place)
	c.request(&v.Request)
	c.code(&v.Code)
	c.hash("digest", &v.Digest)
}

func (c *codec) hash(name string, v *[]byte) {
	run(c, name, v, 1, api.MaxWidth)
}

func (c *codec) head(v *api.Head) {
	number(c, "size", &v.Size)
	c.hash("root", &v.Root)
}

func (c *codec) signed(v *api.Signed) {
	c.head(&v.Head)
	number(c, "key", &v.Key)
	run(c, "signature", &v.Signature, 0, maxSignature)
}

func (c *codec) proof(v *api.Proof) {
	list(c, "hashes", &v.Hashes, api.MaxEvents, func(h *[]byte) { c.hash("hash", h) })
}

func (c *codec) message(v *api.Message) {
	number(c, "kind", &v.Kind, within[uint8](api.MsgRequest, api.MsgWhat, api.ErrKind), unless(messageBeside(*v)))
	switch v.Kind {
	case api.MsgRequest:
		c.request(&v.Request)
	case api.MsgAsk:
		c.id(&v.Id)
	case api.MsgAnswer:
		c.answer(&v.Answer)
	case api.MsgBusy:
		c.id(&v.Id)
		number(c, "busy", &v.Code, within[uint8](uint8(api.EARG), uint8(api.ENONE), api.ErrRange))
	case api.MsgGive:
		c.event(&v.Event)
	case api.MsgHave:
		number(c, "length", &v.Length)
	}
}
