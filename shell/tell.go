package shell

import (
	"strconv"
	"strings"

	"almoner/api"
	"almoner/quant"
)

// digits tells numbers as words.
func digits[N int | uint32](numbers ...N) []string {
	var words []string
	for _, n := range numbers {
		words = append(words, strconv.FormatInt(int64(n), 10))
	}
	return words
}

// answerWords tells the words of an answer's line.
func answerWords(a api.Answer) []string {
	words := digits(a.Id.Client, a.Id.Number, uint32(a.Code), a.Record, a.Version)
	for _, f := range a.Fields {
		words = append(words, fieldWord(f))
	}
	for _, v := range a.History {
		words = append(words, summaryWord(v))
	}
	return words
}

// fieldWord tells a field that an answer has: so none that is gone.
func fieldWord(f api.Field) string {
	if f.Kind == api.FieldQuantity {
		return textWord(f.Name) + ":" + quantityWord(f.Value, f.Unit)
	}
	return textWord(f.Name) + "=" + textWord(f.Text)
}

// textWord tells a text by itself, if it is a TEXT, else by its bytes.
func textWord(text string) string {
	if isText(text) {
		return text
	}
	return "#" + hexWord([]byte(text))
}

func hexWord(b []byte) string {
	if len(b) == 0 {
		return "-"
	}
	var word []byte
	for _, x := range b {
		word = append(word, hexDigits[x>>4], hexDigits[x&15])
	}
	return string(word)
}

func quantityWord(value float32, unit uint8) string {
	text, _ := quant.Format(value, unit) // what a log and its answers tell are quantities
	return strings.Replace(text, " ", "_", 1)
}

func summaryWord(v api.Summary) string {
	word := strings.Join(digits(v.Author, v.Event, v.Fields), "/")
	if v.Redacted {
		word += "*"
	}
	return word
}
