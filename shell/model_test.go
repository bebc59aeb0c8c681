package shell_test

import (
	"fmt"
	"regexp"
	"strconv"
	"testing"

	"resolvent/api"
	"resolvent/asm"
	"resolvent/comp"
	"resolvent/crc"
	"resolvent/machine"
	"resolvent/obj"
	"resolvent/shell"
	"resolvent/term"
	"resolvent/verify"
)

// model is a Shell by the chapter's table: lines are told by their shapes, and machines go on step by step.
type model struct {
	clauses []comp.Clause
	lines   []string
	objects []obj.Object // the last one is the object
	pairs   []pair       // the last ones are the machines
}

// number is the shape of one from 0 to 100000.
const number = `(0|[1-9][0-9]{0,4}|100000)`

// shape is that of a whole line.
func shape(s string) *regexp.Regexp { return regexp.MustCompile(`(?s)\A` + s + `\z`) }

// row is one of the chapter's table: lines of a shape, what they need, and what they do; w are the parts of the line.
type row struct {
	shape *regexp.Regexp
	needs string
	do    func(m *model, w []string) string
}

var table = []row{
	{shape(`clause (.*)`), "", (*model).clause},
	{shape(`asm (.*)`), "", func(m *model, w []string) string {
		m.lines = append(m.lines, w[0])
		return "ok"
	}},
	{shape(`clear`), "", func(m *model, w []string) string {
		m.clauses, m.lines = nil, nil
		return "ok"
	}},
	{shape(`compile`), "", func(m *model, w []string) string { return m.made(comp.Program(m.clauses...)) }},
	{shape(`assemble`), "", func(m *model, w []string) string { return m.made(asm.Program(m.lines...)) }},
	{shape(`check`), "object", (*model).check},
	{shape(`size`), "object", func(m *model, w []string) string {
		b, _ := obj.Encode(m.object())
		return fmt.Sprint(len(b), crc.Sum(b))
	}},
	{shape(`ask ([^ /]*)/` + number + ` ` + number + ` ` + number + ` ` + number), "object", (*model).ask},
	{shape(`step ` + number), "machine", (*model).step},
	{shape(`again`), "machine", (*model).again},
	{shape(`read ` + number), "machine", (*model).read},
	{shape(`state`), "machine", func(m *model, w []string) string {
		s := m.pair().f.Snap()
		return fmt.Sprint(s.PC, s.CP, s.E, s.B, len(s.Cells), len(s.Trail))
	}},
}

func (m *model) do(line string) string {
	for _, r := range table {
		w := r.shape.FindStringSubmatch(line)
		switch {
		case w == nil:
		case r.needs == "object" && len(m.objects) == 0, r.needs == "machine" && len(m.pairs) == 0:
			return "no " + r.needs
		default:
			return r.do(m, w[1:])
		}
	}
	return "what"
}

func (m *model) object() obj.Object { return m.objects[len(m.objects)-1] }

func (m *model) pair() pair { return m.pairs[len(m.pairs)-1] }

func (m *model) clause(w []string) string {
	c, e := comp.Parse(w[0])
	if e != api.OK {
		return "word"
	}
	m.clauses = append(m.clauses, c)
	return "ok"
}

func (m *model) made(o obj.Object, e api.Errno, at int) string {
	if e != api.OK {
		return fmt.Sprint(e.Word(), " ", at)
	}
	m.objects = append(m.objects, o)
	return "ok"
}

func (m *model) check([]string) string {
	switch _, e, at := verify.Check(m.object()); e {
	case api.OK:
		return "ok"
	case api.ErrVerify:
		return fmt.Sprint("verify ", at)
	default:
		return e.Word()
	}
}

func numberOf(s string) int {
	n, _ := strconv.Atoi(s)
	return n
}

func (m *model) ask(w []string) string {
	o := m.object()
	room := machine.Room{Cells: numberOf(w[2]), Words: numberOf(w[3]), Choices: numberOf(w[4])}
	p, e := newPair(o, obj.Find(o, w[0], numberOf(w[1])), room)
	if e == api.OK {
		m.pairs = append(m.pairs, p)
	}
	return e.Word()
}

// told answers yes, unless both machines aren't the same.
func (p pair) told(yes string) string {
	if !machine.Same(p.m.Snap(), p.f.Snap()) {
		return "differ"
	}
	return yes
}

func (m *model) step(w []string) string {
	p := m.pair()
	for range numberOf(w[0]) {
		a, b := p.m.Step(), p.f.Step()
		if a != b {
			return "differ"
		}
		if a != machine.Running {
			break
		}
	}
	return p.told(outcomes[p.m.Snap().Outcome])
}

func (m *model) again([]string) string {
	p := m.pair()
	a, b := p.m.Again(), p.f.Again()
	if a != b {
		return "differ"
	}
	return p.told(map[bool]string{true: "yes", false: "no"}[a])
}

func (m *model) read(w []string) string {
	t, e := m.pair().m.Read(numberOf(w[0]))
	if e != api.OK {
		return e.Word()
	}
	return term.Text(t)
}

// holdModel does lines, and holds each reply against the model's, and that it is neither differ nor stuck.
func holdModel(t *testing.T, s *shell.Shell, m *model, lines ...string) []string {
	t.Helper()
	var replies []string
	for n, line := range lines {
		got, want := s.Do(line), m.do(line)
		if got != want || got == "differ" || got == "stuck" {
			t.Fatalf("%d: %q: %q, should be %q; behind %q", n, line, got, want, lines[max(0, n-30):n])
		}
		replies = append(replies, got)
	}
	return replies
}
