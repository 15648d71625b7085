package record

import (
	"slices"
	"strings"

	"almoner/api"
	"almoner/quant"
)

// merged tells fields behind a change. It goes along both lists, which rise by name, as long as both go on; then along the one that is left.
func merged(fields, change []api.Field) []api.Field {
	out := make([]api.Field, 0, max(len(fields), len(change)))
	for min(len(fields), len(change)) > 0 {
		next := min(fields[0].Name, change[0].Name)
		if next != change[0].Name {
			out, fields = append(out, fields[0]), fields[1:]
			continue
		}
		if next == fields[0].Name {
			fields = fields[1:] // what the change has stands in its place
		}
		out, change = appendKept(out, change[:1]), change[1:]
	}
	return appendKept(append(out, fields...), change)
}

// appendKept appends those of a change that are not taken away.
func appendKept(out, change []api.Field) []api.Field {
	for _, f := range change {
		if f.Kind != api.FieldGone {
			out = append(out, ownCopy(f))
		}
	}
	return out
}

// remeasures tells whether a change has a quantity that measures another thing than the quantity of its name.
func remeasures(fields, change []api.Field) bool {
	for _, f := range change {
		at := slices.IndexFunc(fields, func(was api.Field) bool { return was.Name == f.Name })
		if at >= 0 && areQuantities(f, fields[at]) && !quant.Same(f.Unit, fields[at].Unit) {
			return true
		}
	}
	return false
}

func areQuantities(f, g api.Field) bool {
	return f.Kind == api.FieldQuantity && g.Kind == api.FieldQuantity
}

// ownCopy tells a field with texts of its own: those that are handed in may be pieces of a longer one, which is not to be kept.
func ownCopy(f api.Field) api.Field {
	f.Name, f.Text = strings.Clone(f.Name), strings.Clone(f.Text)
	return f
}

func ownCopies(l []api.Field) []api.Field {
	out := make([]api.Field, 0, len(l))
	for _, f := range l {
		out = append(out, ownCopy(f))
	}
	return out
}
