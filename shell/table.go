package shell

import (
	"strings"

	"almoner/api"
)

// What a command may need.
const (
	nothing = iota
	aWorld
	aVerifier
)

// command is a row of the table.
type command struct {
	form  string // its name, and the kinds of the words behind it
	needs int
	do    func(*shell, arguments) api.Errno
}

// commands tells the table. Of two rows of one name a line has the form of one at most.
func commands() []command {
	return []command{
		{"staff N N N", nothing, (*shell).hire},
		{"world N N HEX N N N", nothing, (*shell).begin},
		{"create N N N N FIELDS", aWorld, (*shell).create},
		{"amend N N N N FIELDS", aWorld, (*shell).amend},
		{"read N N N N", aWorld, (*shell).read},
		{"redact N N N N", aWorld, (*shell).redact},
		{"history N N N", aWorld, (*shell).history},
		{"seal N N N N", aWorld, (*shell).seal},
		{"break N N N TEXT", aWorld, (*shell).breakSeal},
		{"break N N N", aWorld, (*shell).breakSeal},
		{"retry N", aWorld, (*shell).retry},
		{"deliver N", aWorld, (*shell).deliver},
		{"double N", aWorld, (*shell).double},
		{"drop N", aWorld, (*shell).drop},
		{"tick N", aWorld, (*shell).tick},
		{"arm N N N", aWorld, (*shell).arm},
		{"crash N N", aWorld, (*shell).crash},
		{"restart N N", aWorld, (*shell).restart},
		{"fill N N", aWorld, (*shell).fill},
		{"run N", aWorld, (*shell).run},
		{"bag", aWorld, (*shell).bag},
		{"log N", aWorld, (*shell).log},
		{"got N", aWorld, (*shell).got},
		{"sign", aWorld, (*shell).sign},
		{"verifier", aWorld, (*shell).verify},
		{"check N", aVerifier, (*shell).check},
		{"include N N", aVerifier, (*shell).include},
		{"access", aWorld, (*shell).access},
		{"trail N", aWorld, (*shell).trail},
		{"series N TEXT UNIT", aWorld, (*shell).series},
		{"replay", aWorld, (*shell).replay},
		{"public", aWorld, (*shell).public},
	}
}

// arguments are what the words of a line tell, by their kinds.
type arguments struct {
	numbers []int
	bytes   []byte
	text    string
	unit    string
	fields  []api.Field
}

// commandOf tells the command of a line, and what its words tell; false, if the line has the form of none.
func commandOf(line string) (command, arguments, bool) {
	words := strings.Split(line, " ")
rows:
	for _, c := range commands() {
		var a arguments
		left := words
		for _, kind := range strings.Split(c.form, " ") {
			taken := a.take(kind, left)
			if taken == 0 {
				continue rows
			}
			left = left[taken:]
		}
		if len(left) == 0 {
			return c, a, true
		}
	}
	return command{}, arguments{}, false
}

// take takes in the words of a kind that come first, and tells how many they are: none, if they are of another kind.
func (a *arguments) take(kind string, words []string) int {
	if len(words) == 0 {
		return 0
	}
	first, taken, fits := words[0], 1, false
	switch kind {
	case "N":
		var n int
		n, fits = numberOf(first)
		a.numbers = append(a.numbers, n)
	case "HEX":
		a.bytes, fits = bytesOf(first)
	case "TEXT":
		a.text, fits = first, isText(first)
	case "UNIT":
		a.unit, fits = first, first != ""
	case "FIELDS":
		taken = len(words)
		a.fields, fits = fieldsOf(words)
	default: // a name stands for itself
		fits = first == kind
	}
	if !fits {
		return 0
	}
	return taken
}
