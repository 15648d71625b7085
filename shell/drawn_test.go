package shell_test

import (
	"fmt"
	"math/rand"
	"strings"

	"almoner/api"
)

// script draws lines, and does them by the words as it goes: so it knows which messages there are, and what is to be said.
type script struct {
	*rand.Rand
	p     *plain
	lines []string
	told  []string // what each line says
	calm  bool     // without crashes, torn writes and full disks
}

func newScript(seed int64) *script {
	return &script{Rand: rand.New(rand.NewSource(seed)), p: &plain{}}
}

// add does a line, and tells the error that it says, OK for none.
func (s *script) add(form string, all ...any) api.Errno {
	line, before, e := fmt.Sprintf(form, all...), s.p.said.Len(), api.OK
	if line != "" && line[0] != '#' {
		e = s.p.line(line)
	}
	s.lines, s.told = append(s.lines, line), append(s.told, s.p.said.String()[before:])
	return e
}

func (s *script) text() string { return strings.Join(s.lines, "\n") }

// begin lays a staff in any order, and a world.
func (s *script) begin() {
	for _, i := range s.Perm(len(people)) {
		s.add("staff %d %d %d", people[i].Actor, people[i].Role, people[i].Ward)
	}
	s.add("world %d %d %02x 8192 %d %d", oneOf(s.Rand, 1, 4, 32), s.Intn(4), s.Intn(256), oneOf(s.Rand, 8192, 20000, 65536), oneOf(s.Rand, 1, 2, 3))
}

// message draws the number of one that is under way, rarely of one that is not.
func (s *script) message() int {
	bag := s.p.w.Bag()
	if len(bag) == 0 || s.Intn(40) == 0 {
		return s.Intn(60)
	}
	return oneOf(s.Rand, bag...)
}

func (s *script) node() int {
	if s.Intn(50) == 0 {
		return 3 + s.Intn(10)
	}
	return s.Intn(3)
}

func (s *script) client() int {
	if s.Intn(50) == 0 {
		return 3 + s.Intn(20)
	}
	return s.Intn(max(s.p.clients, 1))
}

func (s *script) actor() int { return oneOf(s.Rand, 1, 2, 2, 3, 3, 4, 5, 6, 6, 9) }

// record draws one that there may be; mostly the first, so that much happens to it.
func (s *script) record() int { return oneOf(s.Rand, 1, 1, 1, 1, 2, 2, 3, 0, 9) }

// version draws one, often the last one of a record that is changed much.
func (s *script) version() int { return oneOf(s.Rand, 0, 1, 1, 2, 2, 3, 4, 5, 6) }

// field draws the word of one.
func (s *script) field(name string) string {
	switch s.Intn(5) {
	case 0:
		return name + "!"
	case 1, 2:
		return name + "=" + oneOf(s.Rand, "x", "Ada", "0", "a_b.c", strings.Repeat("Z", 64))
	}
	return name + ":" + oneOf(s.Rand, "36.6", "0", "-1.50", "007", "100", "0.1") + "_" + oneOf(s.Rand, "C", "C", "C", "F", "K", "g", "mmol/L", "%", "1")
}

func (s *script) fields() string {
	if s.Intn(5) == 0 {
		return "."
	}
	var l []string
	for _, name := range []string{"t", "b", "A", "_", "z.9"} {
		if s.Intn(2) == 0 {
			l = append(l, s.field(name))
		}
	}
	s.Shuffle(len(l), func(i, k int) { l[i], l[k] = l[k], l[i] })
	if len(l) == 0 {
		return "t:36.6_C"
	}
	return strings.Join(l, " ")
}

// call draws one of all operations, most of them of somebody that may.
func (s *script) call() {
	client, actor, record, version := s.client(), s.actor(), s.record(), s.version()
	switch s.Intn(10) {
	case 0, 1:
		s.add("create %d %d %d %d %s", client, actor, oneOf(s.Rand, 7, 7, 8), oneOf(s.Rand, 6, 6, 6, 5), s.fields())
	case 2, 3:
		s.add("amend %d %d %d %d %s", client, actor, record, version, s.fields())
	case 4, 5:
		s.add("read %d %d %d %d", client, actor, record, version*s.Intn(2))
	case 6:
		s.add("redact %d %d %d %d", client, oneOf(s.Rand, actor, 6), record, version)
	case 7:
		s.add("history %d %d %d", client, actor, record)
	case 8:
		s.add("seal %d %d %d %d", client, oneOf(s.Rand, actor, 6, 6), record, s.Intn(2))
	case 9:
		s.add("break %d %d %d%s", client, oneOf(s.Rand, actor, 4, 2), record, oneOf(s.Rand, "", " heart", " heart"))
	}
}

// harm draws what goes wrong.
func (s *script) harm() {
	switch bytes := oneOf(s.Rand, 0, 1, 20, 100, 4000); s.Intn(6) {
	case 0:
		s.add("arm %d %d %d", s.node(), 1+s.Intn(4), bytes)
	case 1:
		s.add("crash %d %d", s.node(), bytes)
	case 2, 3, 4:
		s.add("restart %d %d", s.node(), bytes)
	case 5:
		s.add("fill %d %d", s.node(), oneOf(s.Rand, 0, 0, 0, 1, 2))
	}
}

// step draws one.
func (s *script) step() {
	switch k := s.Intn(100); {
	case k < 12:
		s.call()
	case k < 56:
		s.add("deliver %d", s.message())
	case k < 60:
		s.add("double %d", s.message())
	case k < 64:
		s.add("drop %d", s.message())
	case k < 70:
		s.add("retry %d", s.client())
	case k < 81:
		s.add("tick %d", s.node())
	case k < 92:
		s.add("run %d", s.Intn(5))
	case !s.calm:
		s.harm()
	}
}

// ask draws a question, or a check.
func (s *script) ask() {
	n, size := s.Intn(4), s.Intn(1+len(s.p.w.Log(2)))
	switch s.Intn(12) {
	case 0:
		s.add("bag")
	case 1:
		s.add("log %d", n)
	case 2:
		s.add("got %d", n)
	case 3:
		s.add("sign")
	case 4:
		if s.Intn(3) == 0 {
			s.add("verifier")
		}
	case 5, 6:
		s.add("check %d", oneOf(s.Rand, size, len(s.p.w.Log(2))))
	case 7:
		s.add("include %d %d", s.Intn(1+size), oneOf(s.Rand, size, len(s.p.w.Log(2))))
	case 8:
		s.add("access")
	case 9:
		s.add("trail %d", n)
	case 10:
		s.add("series %d %s %s", n, oneOf(s.Rand, "t", "b", "x"), oneOf(s.Rand, "C", "F", "K", "g", "%", "1", "x", "-"))
	case 11:
		s.add("%s", oneOf(s.Rand, "replay", "public"))
	}
}

// odd draws a line that has no form, most times: one of those that were, with something changed.
func (s *script) odd() {
	line := []byte(oneOf(s.Rand, s.lines...))
	for range 1 + s.Intn(2) {
		at := s.Intn(len(line) + 1)
		put := []byte(oneOf(s.Rand, " ", "0", "1", "x", "=", ":", "!", ".", "_", "-", "+", "\x00", "\xff", "é", "a=b", "\t", "#", ""))
		line = append(append(append([]byte(nil), line[:at]...), put...), line[min(len(line), at+s.Intn(2)):]...)
	}
	s.add("%s", line)
}
