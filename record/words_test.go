package record_test

// The chapter's words, read plainly: what the package is held against. A version's fields stand in a map by their names, and a list is sorted when it is told.

import (
	"maps"
	"math"
	"slices"

	"almoner/api"
	"almoner/policy"
	"almoner/quant"
)

type plainVersion struct {
	author, place uint32
	fields        map[string]api.Field
	redacted      bool
}

type plainRecord struct {
	ward, owner uint32
	sealed      bool
	granted     map[uint32]bool
	versions    []*plainVersion
}

type plain struct {
	staff   []api.Staff
	records []*plainRecord
}

// uses tells whether an Op uses a part, as the words' list has it.
func uses(op uint8, part string) bool {
	return slices.Contains(map[uint8][]string{
		api.OpCreate:  {"ward", "owner", "fields"},
		api.OpAmend:   {"record", "version", "fields"},
		api.OpRead:    {"record", "version"},
		api.OpRedact:  {"record", "version"},
		api.OpHistory: {"record"},
		api.OpSeal:    {"record", "version"},
		api.OpBreak:   {"record", "reason"},
	}[op], part)
}

func formed(r api.Request) bool {
	unused := map[string]bool{"record": r.Record == 0, "version": r.Version == 0, "ward": r.Ward == 0, "owner": r.Owner == 0, "fields": len(r.Fields) == 0, "reason": len(r.Reason) == 0}
	for part, empty := range unused {
		if !uses(r.Op, part) && !empty {
			return false
		}
	}
	for i, f := range r.Fields {
		if i > 0 && !rises(r.Fields[i-1].Name, f.Name) || !fieldFormed(f) || r.Op == api.OpCreate && f.Kind == api.FieldGone {
			return false
		}
	}
	known := r.Op == 1 || r.Op == 2 || r.Op == 3 || r.Op == 4 || r.Op == 5 || r.Op == 6 || r.Op == 7
	return known && len(r.Fields) <= 32 && len(r.Reason) <= 64 && !(r.Op == api.OpSeal && r.Version != 0 && r.Version != 1)
}

// rises goes byte by byte.
func rises(a, b string) bool {
	for i := range len(b) {
		if i == len(a) || a[i] < b[i] {
			return true
		}
		if a[i] > b[i] {
			return false
		}
	}
	return false
}

func fieldFormed(f api.Field) bool {
	if len(f.Name) == 0 || len(f.Name) > 64 {
		return false
	}
	bits := math.Float32bits(f.Value)
	switch f.Kind {
	case api.FieldText:
		return len(f.Text) <= 64 && bits == 0 && f.Unit == 0
	case api.FieldQuantity:
		exponent, minusZero := bits>>23&255, uint32(1)<<31
		return exponent != 255 && bits != minusZero && quant.Name(f.Unit) != "" && f.Text == ""
	case api.FieldGone:
		return f.Text == "" && bits == 0 && f.Unit == 0
	}
	return false
}

// told is a version's fields, rising.
func (v *plainVersion) told() []api.Field {
	var l []api.Field
	for _, name := range slices.Sorted(maps.Keys(v.fields)) {
		l = append(l, v.fields[name])
	}
	return l
}

func (v *plainVersion) summary() api.Summary {
	return api.Summary{Author: v.author, Event: v.place, Fields: uint32(len(v.fields)), Redacted: v.redacted}
}

func (c *plainRecord) last() *plainVersion { return c.versions[len(c.versions)-1] }

func (c *plainRecord) sheet() policy.Sheet {
	return policy.Sheet{Ward: c.ward, Owner: c.owner, Sealed: c.sealed, Granted: slices.Sorted(maps.Keys(c.granted))}
}

// merge tells the merged fields.
func (c *plainRecord) merge(change []api.Field) map[string]api.Field {
	m := maps.Clone(c.last().fields)
	if m == nil {
		m = map[string]api.Field{}
	}
	for _, f := range change {
		m[f.Name] = f
	}
	maps.DeleteFunc(m, func(_ string, f api.Field) bool { return f.Kind == api.FieldGone })
	return m
}

// badUnit tells whether a quantity's unit changes what it measures.
func (c *plainRecord) badUnit(change []api.Field) bool {
	for _, f := range change {
		was := c.last().fields[f.Name]
		if f.Kind == api.FieldQuantity && was.Kind == api.FieldQuantity && !quant.Same(was.Unit, f.Unit) {
			return true
		}
	}
	return false
}

// nobody tells whether a number is no actor's.
func (p *plain) nobody(actor uint32) bool {
	return !slices.ContainsFunc(p.staff, func(s api.Staff) bool { return s.Actor == actor })
}

func (p *plain) record(number uint32) *plainRecord {
	for i, c := range p.records {
		if number == uint32(i+1) {
			return c
		}
	}
	return nil
}

func (p *plain) apply(r api.Request, place uint32) api.Answer {
	a := api.Answer{Id: r.Id}
	c := p.record(r.Record)
	switch {
	case !formed(r):
		a.Code = api.NoForm
	case p.nobody(r.Actor):
		a.Code = api.NoActor
	case r.Op != api.OpCreate && c == nil:
		a.Code = api.NoRecord
	default:
		a.Code = p.policy(c, r)
	}
	if a.Code == api.Done {
		a.Code = p.row(c, r)
	}
	if a.Code == api.Done {
		p.done(c, r, place, &a)
	}
	return a
}

func (p *plain) policy(c *plainRecord, r api.Request) uint8 {
	switch r.Op {
	case api.OpCreate:
		return policy.Create(p.staff, r.Actor, r.Ward, r.Owner)
	case api.OpAmend:
		return policy.Amend(p.staff, c.sheet(), r.Actor, r.Fields)
	case api.OpRead:
		return policy.Read(p.staff, c.sheet(), r.Actor)
	case api.OpRedact:
		return policy.Redact(p.staff, c.sheet(), r.Actor)
	case api.OpHistory:
		return policy.History(p.staff, c.sheet(), r.Actor)
	case api.OpSeal:
		return policy.Seal(p.staff, c.sheet(), r.Actor)
	}
	return policy.Break(p.staff, c.sheet(), r.Actor, r.Reason)
}

// row tells the codes of an Op's row.
func (p *plain) row(c *plainRecord, r api.Request) uint8 {
	if r.Op == api.OpCreate {
		if len(p.records) == 256 {
			return api.TooMany
		}
		return api.Done
	}
	last := uint32(len(c.versions))
	switch {
	case r.Op == api.OpAmend && (r.Version == 0 || r.Version > last):
		return api.NoVersion
	case r.Op == api.OpAmend && r.Version != last:
		return api.Stale
	case r.Op == api.OpAmend && (last == 64 || len(c.merge(r.Fields)) > 32):
		return api.TooMany
	case r.Op == api.OpAmend && c.badUnit(r.Fields):
		return api.BadUnit
	case r.Op == api.OpRead && r.Version > last:
		return api.NoVersion
	case r.Op == api.OpRead && r.Version == 0 && c.last().redacted:
		return api.IsRedacted
	case r.Op == api.OpRead && r.Version != 0 && c.versions[r.Version-1].redacted:
		return api.IsRedacted
	case r.Op == api.OpRedact && (r.Version == 0 || r.Version > last):
		return api.NoVersion
	case r.Op == api.OpRedact && c.versions[r.Version-1].redacted:
		return api.IsRedacted
	}
	return api.Done
}

// done does it, and writes into the answer what it tells.
func (p *plain) done(c *plainRecord, r api.Request, place uint32, a *api.Answer) {
	a.Record = r.Record
	switch r.Op {
	case api.OpCreate:
		c = &plainRecord{ward: r.Ward, owner: r.Owner, granted: map[uint32]bool{}, versions: []*plainVersion{{author: r.Actor, place: place}}}
		c.last().fields = c.merge(r.Fields)
		p.records = append(p.records, c)
		a.Record, a.Version = uint32(len(p.records)), 1
	case api.OpAmend:
		c.versions = append(c.versions, &plainVersion{author: r.Actor, place: place, fields: c.merge(r.Fields)})
		a.Version = uint32(len(c.versions))
	case api.OpRead:
		a.Version = r.Version
		if r.Version == 0 {
			a.Version = uint32(len(c.versions))
		}
		a.Fields = c.versions[a.Version-1].told()
	case api.OpRedact:
		v := c.versions[r.Version-1]
		v.redacted, v.fields = true, nil
		a.Version = r.Version
	case api.OpHistory:
		a.Version = uint32(len(c.versions))
		for _, v := range c.versions {
			a.History = append(a.History, v.summary())
		}
	case api.OpSeal:
		c.sealed = r.Version == 1
		clear(c.granted)
	case api.OpBreak:
		c.granted[r.Actor] = true
	}
}

// copied tells another one, alike.
func (p *plain) copied() *plain {
	other := &plain{staff: slices.Clone(p.staff)}
	for _, c := range p.records {
		d := *c
		d.granted, d.versions = maps.Clone(c.granted), nil
		for _, v := range c.versions {
			w := *v
			w.fields = maps.Clone(v.fields)
			d.versions = append(d.versions, &w)
		}
		other.records = append(other.records, &d)
	}
	return other
}
