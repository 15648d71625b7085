package shell

import (
	"strings"

	"almoner/api"
)

// AnswerLine tells an answer's line: so that the tests see those too that no text leads to.
func AnswerLine(a api.Answer) string { return strings.Join(answerWords(a), " ") }
