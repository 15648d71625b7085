package shell

import (
	"cmp"
	"slices"
	"strconv"
	"strings"

	"almoner/api"
	"almoner/quant"
)

const hexDigits = "0123456789abcdef"

// numberOf tells the number of a word. Each number is told by one word alone: that leaves no room for a 0 in front.
func numberOf(word string) (int, bool) {
	n, err := strconv.ParseUint(word, 10, 32)
	if err != nil || strconv.FormatUint(n, 10) != word {
		return 0, false
	}
	return int(n), true
}

// isText tells whether a word is a TEXT.
func isText(word string) bool {
	if word == "" || len(word) > api.MaxText {
		return false
	}
	for i := range len(word) { // by bytes: a letter of several is none
		if !isSign(word[i]) {
			return false
		}
	}
	return true
}

// isSign tells whether a byte may stand in a TEXT.
func isSign(b byte) bool {
	return 'a' <= b && b <= 'z' || 'A' <= b && b <= 'Z' || '0' <= b && b <= '9' || b == '.' || b == '_'
}

// bytesOf tells the bytes of a HEX.
func bytesOf(word string) ([]byte, bool) {
	if word == "-" {
		return nil, true
	}
	if word == "" || len(word)%2 != 0 {
		return nil, false
	}
	var b []byte
	for i := 0; i < len(word); i += 2 {
		high, low := strings.IndexByte(hexDigits, word[i]), strings.IndexByte(hexDigits, word[i+1])
		if high < 0 || low < 0 {
			return nil, false
		}
		b = append(b, byte(high<<4|low))
	}
	return b, true
}

// fieldsOf tells the fields of words, in order.
func fieldsOf(words []string) ([]api.Field, bool) {
	if len(words) == 1 && words[0] == "." {
		return nil, true
	}
	var fields []api.Field
	for _, word := range words {
		f, isField := fieldOf(word)
		if !isField {
			return nil, false
		}
		fields = append(fields, f)
	}
	slices.SortFunc(fields, byName)
	for i := 1; i < len(fields); i++ {
		if fields[i-1].Name == fields[i].Name {
			return nil, false
		}
	}
	return fields, true
}

func byName(a, b api.Field) int { return cmp.Compare(a.Name, b.Name) }

// fieldOf tells the field of a word. The first sign that can't stand in a name says of which kind it is.
func fieldOf(word string) (api.Field, bool) {
	at := strings.IndexAny(word, "=:!")
	if at < 0 || !isText(word[:at]) {
		return api.Field{}, false
	}
	f, rest := api.Field{Name: word[:at]}, word[at+1:]
	switch word[at] {
	case '=':
		f.Kind, f.Text = api.FieldText, rest
		return f, isText(rest)
	case ':':
		var isQuantity bool
		f.Kind = api.FieldQuantity
		f.Value, f.Unit, isQuantity = quantityOf(rest)
		return f, isQuantity
	default: // '!'
		f.Kind = api.FieldGone
		return f, rest == ""
	}
}

// quantityOf tells the quantity of a Q. A number that is too great for one, or too long to be looked at, is none: the word has no form then.
func quantityOf(word string) (value float32, unit uint8, isQuantity bool) {
	value, unit, errno := quant.Parse(strings.Replace(word, "_", " ", 1))
	return value, unit, errno == api.OK
}

// unitOf tells the unit of a name, 0 if there is none.
func unitOf(name string) uint8 {
	for unit := 1; unit <= quant.Units(); unit++ {
		if quant.Name(uint8(unit)) == name {
			return uint8(unit)
		}
	}
	return 0
}
