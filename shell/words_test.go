package shell_test

// The chapter's words, read plainly: what the package is held against. Forms are regular expressions; what a line does is asked of the layers below.

import (
	"fmt"
	"regexp"
	"slices"
	"strconv"
	"strings"
	"testing"

	"almoner/api"
	"almoner/audit"
	"almoner/quant"
	"almoner/shell"
	"almoner/verifier"
	"almoner/wire"
	"almoner/world"
)

// unitNames are the names of all units, by their numbers.
var unitNames = strings.Fields("- g mg ug kg lb L mL m cm in C F K kPa mmHg mmol/L mg/dL /min /s % 1")

// kinds are what P21.2 says of each kind of word.
var kinds = map[string]string{
	"N":      `(?:0|[1-9][0-9]{0,9})`,
	"TEXT":   `[a-zA-Z0-9._]{1,64}`,
	"HEX":    `(?:-|(?:[0-9a-f][0-9a-f])+)`,
	"UNIT":   `[^ ]+`,
	"FIELDS": `(?:\.|` + fieldForm + `(?: ` + fieldForm + `)*)`,
}

const fieldForm = `(?:[a-zA-Z0-9._]{1,64}(?:=[a-zA-Z0-9._]{1,64}|:-?[0-9]+(?:\.[0-9]+)?_(?:g|mg|ug|kg|lb|L|mL|m|cm|in|C|F|K|kPa|mmHg|mmol/L|mg/dL|/min|/s|%|1)|!))`

// row is one of the table: its form, what it needs (0 nothing, 1 a world, 2 a verifier), what is done with the words behind the name.
type row struct {
	form  string
	needs int
	do    func(p *plain, w []string) api.Errno
}

// rows is the table.
func rows() []row {
	return []row{
		{"staff N N N", 0, func(p *plain, w []string) api.Errno {
			p.staff = append(p.staff, api.Staff{Actor: u(w[0]), Role: u(w[1]), Ward: u(w[2])})
			return p.ok()
		}},
		{"world N N HEX N N N", 0, (*plain).newWorld},
		{"create N N N N FIELDS", 1, func(p *plain, w []string) api.Errno {
			return p.call(w, api.Request{Op: api.OpCreate, Ward: u(w[2]), Owner: u(w[3]), Fields: fieldsOf(w[4])})
		}},
		{"amend N N N N FIELDS", 1, func(p *plain, w []string) api.Errno {
			return p.call(w, api.Request{Op: api.OpAmend, Record: u(w[2]), Version: u(w[3]), Fields: fieldsOf(w[4])})
		}},
		{"read N N N N", 1, func(p *plain, w []string) api.Errno {
			return p.call(w, api.Request{Op: api.OpRead, Record: u(w[2]), Version: u(w[3])})
		}},
		{"redact N N N N", 1, func(p *plain, w []string) api.Errno {
			return p.call(w, api.Request{Op: api.OpRedact, Record: u(w[2]), Version: u(w[3])})
		}},
		{"history N N N", 1, func(p *plain, w []string) api.Errno {
			return p.call(w, api.Request{Op: api.OpHistory, Record: u(w[2])})
		}},
		{"seal N N N N", 1, func(p *plain, w []string) api.Errno {
			return p.call(w, api.Request{Op: api.OpSeal, Record: u(w[2]), Version: u(w[3])})
		}},
		{"break N N N TEXT", 1, func(p *plain, w []string) api.Errno {
			return p.call(w, api.Request{Op: api.OpBreak, Record: u(w[2]), Reason: w[3]})
		}},
		{"break N N N", 1, func(p *plain, w []string) api.Errno {
			return p.call(w, api.Request{Op: api.OpBreak, Record: u(w[2])})
		}},
		{"retry N", 1, func(p *plain, w []string) api.Errno { return p.step(world.Step{Op: world.Retry, Client: n(w[0])}) }},
		{"deliver N", 1, func(p *plain, w []string) api.Errno { return p.step(world.Step{Op: world.Deliver, Index: n(w[0])}) }},
		{"double N", 1, func(p *plain, w []string) api.Errno { return p.step(world.Step{Op: world.Double, Index: n(w[0])}) }},
		{"drop N", 1, func(p *plain, w []string) api.Errno { return p.step(world.Step{Op: world.Drop, Index: n(w[0])}) }},
		{"tick N", 1, func(p *plain, w []string) api.Errno { return p.step(world.Step{Op: world.Tick, Node: n(w[0])}) }},
		{"arm N N N", 1, func(p *plain, w []string) api.Errno {
			return p.step(world.Step{Op: world.Arm, Node: n(w[0]), Index: n(w[1]), N: n(w[2])})
		}},
		{"crash N N", 1, func(p *plain, w []string) api.Errno {
			return p.step(world.Step{Op: world.Crash, Node: n(w[0]), N: n(w[1])})
		}},
		{"restart N N", 1, func(p *plain, w []string) api.Errno {
			return p.step(world.Step{Op: world.Restart, Node: n(w[0]), N: n(w[1])})
		}},
		{"fill N N", 1, func(p *plain, w []string) api.Errno {
			return p.step(world.Step{Op: world.Fill, Node: n(w[0]), N: n(w[1])})
		}},
		{"run N", 1, (*plain).run},
		{"bag", 1, (*plain).bag},
		{"log N", 1, (*plain).log},
		{"got N", 1, func(p *plain, w []string) api.Errno { return p.answers(p.w.Got(n(w[0]))) }},
		{"sign", 1, (*plain).sign},
		{"verifier", 1, (*plain).newVerifier},
		{"check N", 2, (*plain).check},
		{"include N N", 2, (*plain).include},
		{"access", 1, (*plain).access},
		{"trail N", 1, (*plain).trail},
		{"series N TEXT UNIT", 1, (*plain).series},
		{"replay", 1, (*plain).replay},
		{"public", 1, func(p *plain, w []string) api.Errno { return p.say("%s", hexOf(p.w.Public())) }},
	}
}

// formsOf tells the rows' forms, compiled once for many lines.
func formsOf(l []row) []*regexp.Regexp {
	var forms []*regexp.Regexp
	for _, r := range l {
		words := strings.Fields(r.form)
		form := `^` + words[0]
		for _, kind := range words[1:] {
			form += ` (` + kinds[kind] + `)`
		}
		forms = append(forms, regexp.MustCompile(`(?s)`+form+`$`))
	}
	return forms
}

var (
	table = rows()
	forms = formsOf(table)
)

// plain is what is kept, and what was said.
type plain struct {
	staff   []api.Staff
	c       api.Config
	clients int
	w       *world.World
	v       *verifier.Verifier
	head    []byte
	said    strings.Builder
}

// newPlain has a world already, of the people.
func newPlain(width, height, clients int) *plain {
	p := &plain{staff: people}
	p.newWorld([]string{fmt.Sprint(width), fmt.Sprint(height), "01", "8192", "65536", fmt.Sprint(clients)})
	return p
}

// runWord is the chapter.
func runWord(text string) (string, api.Errno) {
	l := strings.Split(text, "\n")
	if l[len(l)-1] == "" {
		l = l[:len(l)-1]
	}
	if len(text) > 1048576 || len(l) > 1000 {
		return "", api.ELIMIT
	}
	p := &plain{}
	for _, line := range l {
		if line != "" && !strings.HasPrefix(line, "#") {
			p.line(line)
		}
	}
	return p.said.String(), api.OK
}

// line does one, and tells the error that it says, OK for none.
func (p *plain) line(line string) api.Errno {
	e := p.do(line)
	if e != api.OK {
		p.say("error %d", int(e))
	}
	return e
}

func (p *plain) do(line string) api.Errno {
	for i, form := range forms {
		words := form.FindStringSubmatch(line)
		if words == nil || !areWithin(table[i].form, words[1:]) {
			continue
		}
		if needs := table[i].needs; needs >= 1 && p.w == nil || needs == 2 && p.v == nil {
			return api.ENONE
		}
		return table[i].do(p, words[1:])
	}
	return api.EFORM
}

// areWithin asks of words what the expressions can't say: how great a number is, that a quantity has one, that no name comes twice.
func areWithin(form string, words []string) bool {
	for i, kind := range strings.Fields(form)[1:] {
		switch kind {
		case "N":
			if x, _ := strconv.ParseUint(words[i], 10, 64); x > 4294967295 {
				return false
			}
		case "FIELDS":
			names := map[string]bool{}
			for _, f := range fieldsOf(words[i]) {
				if f.Kind == 0 || names[f.Name] {
					return false
				}
				names[f.Name] = true
			}
		}
	}
	return true
}

func n(word string) int    { x, _ := strconv.ParseInt(word, 10, 64); return int(x) }
func u(word string) uint32 { return uint32(n(word)) }

func hexOf(b []byte) string {
	if len(b) == 0 {
		return "-"
	}
	return fmt.Sprintf("%x", b)
}

// fieldsOf tells the fields of words that have the form of FIELDS. One whose number is too great has no kind.
func fieldsOf(words string) []api.Field {
	var l []api.Field
	for _, word := range strings.Fields(words) {
		if name, text, found := strings.Cut(word, "="); found {
			l = append(l, api.Field{Name: name, Kind: api.FieldText, Text: text})
		} else if name, found := strings.CutSuffix(word, "!"); found {
			l = append(l, api.Field{Name: name, Kind: api.FieldGone})
		} else if name, text, found := strings.Cut(word, ":"); found {
			number, unit, _ := strings.Cut(text, "_")
			x, which, e := quant.Parse(number + " " + unit)
			if e != api.OK {
				l = append(l, api.Field{Name: name})
				continue
			}
			l = append(l, api.Field{Name: name, Kind: api.FieldQuantity, Value: x, Unit: which})
		}
	}
	slices.SortFunc(l, func(a, b api.Field) int { return strings.Compare(a.Name, b.Name) })
	return l
}

func (p *plain) say(form string, all ...any) api.Errno {
	fmt.Fprintf(&p.said, form+"\n", all...)
	return api.OK
}

func (p *plain) ok() api.Errno { return p.say("ok") }

func (p *plain) okIf(e api.Errno) api.Errno {
	if e != api.OK {
		return e
	}
	return p.ok()
}

func (p *plain) newWorld(w []string) api.Errno {
	var seed []byte
	fmt.Sscanf(w[2], "%x", &seed)
	staff := slices.Clone(p.staff)
	slices.SortFunc(staff, func(a, b api.Staff) int { return int(int64(a.Actor) - int64(b.Actor)) })
	c := api.Config{Width: n(w[0]), Height: n(w[1]), Seed: seed, Staff: staff, Segment: n(w[3]), Disk: n(w[4])}
	x, e := world.New(c, n(w[5]))
	if e == api.OK {
		p.w, p.c, p.clients, p.v, p.head = x, c, n(w[5]), nil, nil
	}
	return p.okIf(e)
}

func (p *plain) call(w []string, r api.Request) api.Errno {
	r.Actor = u(w[1])
	return p.step(world.Step{Op: world.Call, Client: n(w[0]), Request: r})
}

func (p *plain) step(s world.Step) api.Errno {
	x := p.w.Step(s)
	if x.E != api.OK {
		return x.E
	}
	p.say("%s", strings.TrimSpace("ok "+strings.Trim(fmt.Sprint(x.Sent), "[]")))
	return p.answers(x.Answers)
}

func (p *plain) answers(l []api.Answer) api.Errno {
	for _, a := range l {
		p.say("%s", answerWord(a))
	}
	return api.OK
}

// answerWord tells an answer's line.
func answerWord(a api.Answer) string {
	line := fmt.Sprint(a.Id.Client, " ", a.Id.Number, " ", a.Code, " ", a.Record, " ", a.Version)
	for _, f := range a.Fields {
		if f.Kind == api.FieldText {
			line += " " + tellWord(f.Name) + "=" + tellWord(f.Text)
			continue
		}
		text, _ := quant.Format(f.Value, f.Unit)
		line += " " + tellWord(f.Name) + ":" + strings.Replace(text, " ", "_", 1)
	}
	for _, v := range a.History {
		line += fmt.Sprintf(" %d/%d/%d", v.Author, v.Event, v.Fields)
		if v.Redacted {
			line += "*"
		}
	}
	return line
}

var textForm = regexp.MustCompile(`^(?s)` + kinds["TEXT"] + `$`)

func tellWord(text string) string {
	if textForm.MatchString(text) {
		return text
	}
	return "#" + hexOf([]byte(text))
}

func (p *plain) run(w []string) api.Errno {
	if n(w[0]) > 1000 {
		return api.ELIMIT
	}
	for range n(w[0]) {
		for node := range 3 {
			p.w.Step(world.Step{Op: world.Tick, Node: node})
		}
		for client := range p.clients {
			p.w.Step(world.Step{Op: world.Retry, Client: client})
		}
		for _, number := range p.w.Bag() {
			p.answers(p.w.Step(world.Step{Op: world.Deliver, Index: number}).Answers)
		}
	}
	return api.OK
}

func (p *plain) bag([]string) api.Errno {
	for _, number := range p.w.Bag() {
		from, to, m, _ := p.w.Message(number)
		p.say("%d %d %d %d", number, from, to, m.Kind)
	}
	return api.OK
}

func (p *plain) log(w []string) api.Errno {
	for _, ev := range p.w.Log(n(w[0])) {
		r := ev.Request
		p.say("%d %d %d %d %d %d %d", ev.Place, r.Id.Client, r.Id.Number, r.Actor, r.Op, r.Record, ev.Code)
	}
	return api.OK
}

func (p *plain) sign([]string) api.Errno {
	x := p.w.Step(world.Step{Op: world.Sign})
	if x.E != api.OK {
		return x.E
	}
	p.head = x.Bytes
	s, _ := wire.GetSigned(x.Bytes)
	return p.say("%d %x", s.Head.Size, s.Head.Root)
}

func (p *plain) newVerifier([]string) api.Errno {
	p.v, _ = verifier.New(p.c.Width, p.c.Height, p.w.Public())
	return p.ok()
}

func (p *plain) check(w []string) api.Errno {
	old := 0
	if trusted, ok := p.v.Trusted(); ok {
		old = int(trusted.Head.Size)
	}
	x := p.w.Step(world.Step{Op: world.Extend, Index: old, N: n(w[0])})
	if x.E != api.OK {
		return x.E
	}
	return p.okIf(p.v.Head(p.head, x.Bytes))
}

func (p *plain) include(w []string) api.Errno {
	x := p.w.Step(world.Step{Op: world.Include, Index: n(w[0]), N: n(w[1])})
	if x.E != api.OK {
		return x.E
	}
	entry, err := wire.PutEvent(p.w.Log(2)[n(w[0])])
	if err != nil {
		panic(err)
	}
	return p.okIf(p.v.Entry(entry, n(w[0]), x.Bytes))
}

func (p *plain) access([]string) api.Errno {
	report := audit.Report(p.w.Log(2))
	p.said.WriteString(report[:strings.Index(report, "events")])
	return api.OK
}

func (p *plain) trail(w []string) api.Errno {
	return p.say("%s", strings.Trim(fmt.Sprint(audit.Trail(p.w.Log(2), u(w[0]))), "[]"))
}

func (p *plain) series(w []string) api.Errno {
	unit := max(slices.Index(unitNames, w[2]), 0)
	l, e := audit.Series(p.w.Log(2), u(w[0]), w[1], uint8(unit))
	if e != api.OK {
		return e
	}
	for _, x := range l {
		text, _ := quant.Format(x.Value, uint8(unit))
		p.say("%d %s", x.Place, strings.Replace(text, " ", "_", 1))
	}
	return api.OK
}

func (p *plain) replay([]string) api.Errno {
	_, bad := audit.Replay(p.c.Width, p.c.Staff, p.w.Log(2))
	return p.say("%d", bad)
}

// held holds what a text says against the words.
func held(t testing.TB, text string) string {
	t.Helper()
	said, e := shell.Run(text)
	want, wrong := runWord(text)
	if e != wrong || said != want {
		at := 0
		for at < min(len(said), len(want)) && said[at] == want[at] {
			at++
		}
		t.Fatalf("P21.1 to P21.5: %s\nsays %d, %s\nwant %d, %s\n(another from the byte %d on)", short(text), int(e), short(said), int(wrong), short(want), at)
	}
	return said
}

// TestUnitNames: the names that stand here are quant's.
func TestUnitNames(t *testing.T) {
	for unit := 1; unit <= quant.Units(); unit++ {
		if quant.Name(uint8(unit)) != unitNames[unit] {
			t.Errorf("the unit %d is %q", unit, quant.Name(uint8(unit)))
		}
	}
	if quant.Units() != len(unitNames)-1 {
		t.Errorf("there are %d units", quant.Units())
	}
}
