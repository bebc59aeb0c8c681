package shell_test

import (
	"fmt"
	"strings"
	"testing"

	"resolvent/api"
	"resolvent/comp"
	"resolvent/fast"
	"resolvent/machine"
	"resolvent/obj"
	"resolvent/shell"
	"resolvent/term"
)

// P15.1: without machines, whatever else there is.
func TestNoMachine(t *testing.T) {
	for _, lines := range [][]string{nil, {"clause p(a)."}, {"clause p(a).", "compile"}, {"assemble"}, {"asm x"}, {"compile", "clear"}} {
		s := begun(t, lines...)
		hold(t, s, "step 0 => no machine", "step 1 => no machine", "step 100000 => no machine", "again => no machine", "read 0 => no machine", "read 100000 => no machine", "state => no machine")
	}
}

// calling has an environment, a call, and a choice.
const calling = "pred p/1; allocate 1; getvar Y0 X0; putval Y0 X0; call q/1; deallocate; proceed; pred q/1; try @1; getcon a X0; proceed; @1; trust; getcon b X0; proceed"

// P15.1: state at the beginning, amid, and at the end: PC, CP, E, B, cells, trail.
func TestState(t *testing.T) {
	s := asked(t, calling, "ask p/1 9 9 9")
	hold(t, s, "state => 0 -1 -1 0 1 0", "state => 0 -1 -1 0 1 0")
	for _, want := range []string{"1 -1 0 0 1 0", "2 -1 0 0 1 0", "3 -1 0 0 1 0", "6 4 0 0 1 0", "7 4 0 1 1 0", "8 4 0 1 1 1", "4 4 0 1 1 1", "5 -1 -1 1 1 1"} {
		hold(t, s, "step 1 => running", "state => "+want)
	}
	hold(t, s, "step 1 => success", "state => 5 -1 -1 1 1 1", "again => yes", "state => 9 4 0 1 1 0")
	for _, want := range []string{"10 4 0 0 1 0", "11 4 0 0 1 0", "4 4 0 0 1 0", "5 -1 -1 0 1 0"} {
		hold(t, s, "step 1 => running", "state => "+want)
	}
	hold(t, s, "step 1 => success", "state => 5 -1 -1 0 1 0", "again => no", "state => 5 -1 -1 0 1 0", "step 1 => failure", "state => 5 -1 -1 0 1 0")
}

// P15.1: step of none, of some, of more than there are, and of machines that are done.
func TestStep(t *testing.T) {
	s := asked(t, calling, "ask p/1 9 9 9")
	hold(t, s, "step 0 => running", "step 0 => running", "state => 0 -1 -1 0 1 0", "step 8 => running", "step 0 => running", "step 1 => success", "step 0 => success", "step 1 => success", "step 100000 => success", "read 0 => a")
	hold(t, s, "again => yes", "step 0 => running", "step 4 => running", "step 1 => success", "read 0 => b", "again => no", "step 0 => failure", "step 1 => failure", "step 100000 => failure")
	hold(t, s, "ask p/1 9 9 9 => ok", "step 9 => success", "ask p/1 9 9 9 => ok", "step 100000 => success")
	hold(t, s, "ask p/1 0 9 9 => ok", "step 0 => full", "step 1 => full", "state => 0 -1 -1 0 0 0", "read 0 => argument", "again => no", "step 9 => full")
	hold(t, s, "ask p/1 9 3 9 => ok", "step 0 => full", "state => 0 -1 -1 0 1 0", "read 0 => X0", "again => no", "step 9 => full")
	hold(t, s, "ask p/1 9 9 0 => ok", "step 3 => running", "step 1 => full", "step 1 => full", "state => 6 4 0 0 1 0", "read 0 => X0", "again => no")
	long := asked(t, "pred p/0; execute p/0", "ask p/0 0 0 0")
	hold(t, long, "step 100000 => running", "step 99999 => running", "again => no", "state => 0 -1 -1 0 0 0")
	hold(t, asked(t, "pred p/0; fail", "ask p/0 0 0 0"), "step 1 => failure", "again => no", "state => 0 -1 -1 0 0 0")
}

// P15.1: again is of a success alone; it tells whether another way is left.
func TestAgain(t *testing.T) {
	s := begun(t, "clause p(a).", "clause p(b).", "clause p(c) :- fail.", "clause q(X0) :- p(X0), cut.", "compile", "ask p/1 9 9 9")
	hold(t, s, "again => no", "state => 0 -1 -1 0 1 0", "step 3 => success", "again => yes", "again => no", "step 9 => success", "read 0 => b", "again => yes", "step 9 => failure", "again => no", "again => no", "step 9 => failure")
	hold(t, s, "ask p/1 0 9 9 => ok", "again => no", "ask q/1 99 99 99 => ok", "step 99 => success", "read 0 => a", "again => no", "step 9 => failure")
	// The other way is entered, and hasn't the room that it needs.
	full := asked(t, "pred p/1; try @1; proceed; @1; trust; getlis X0; univoid 2; proceed", "ask p/1 1 9 9")
	hold(t, full, "step 9 => success", "again => no", "step 0 => full", "again => no", "state => 2 -1 -1 1 1 0")
}

// P15.1: read of each argument, and of one too many; of terms of each kind.
func TestRead(t *testing.T) {
	s := begun(t, "clause p(X0,a,f(X0,X1),[b|[X1|nil]],X2,X2).", "compile", "ask p/6 99 99 99")
	hold(t, s, "read 0 => X0", "read 5 => X5", "read 6 => argument", "step 99 => success", "read 0 => X0", "read 1 => a", "read 2 => f(X0,X8)", "read 3 => [b|[X8|nil]]", "read 4 => X4", "read 5 => X4", "read 6 => argument", "read 7 => argument", "read 100000 => argument")
	cycle := begun(t, "clause p(X0,X1) :- q(X0,f(X0)).", "clause q(X0,X0).", "compile", "ask p/2 99 99 99")
	hold(t, cycle, "step 99 => success", "read 0 => cycle", "read 1 => X1", "read 2 => argument", "again => no", "step 9 => failure", "read 0 => cycle")
	far := asked(t, "pred p/2; "+strings.Repeat("putstr f/8 X3; univoid 8; ", 112)+"getlis X0; univoid 2; proceed", "ask p/2 9999 9 9")
	hold(t, far, "step 224 => running", "read 0 => X0", "step 99 => success", "state => 226 -1 -1 0 1012 0", "read 0 => full", "read 1 => X1", "read 2 => argument")
}

// P15.1: machines stay those of the object of which they were made, whatever object comes behind it.
func TestNewObject(t *testing.T) {
	s := begun(t, "clause p(a).", "clause p(b).", "compile", "ask p/1 9 9 9")
	hold(t, s, "step 2 => running", "clear => ok", "clause p([c|X0]). => ok", "compile => ok", "state => 2 -1 -1 1 1 1", "step 1 => success", "read 0 => a")
	hold(t, s, "assemble => ok", "again => yes", "asm pred p/1 => ok", "asm getval X3 X0 => ok", "asm proceed => ok", "assemble => ok", "check => verify 0", "step 9 => success", "read 0 => b", "again => no")
	hold(t, s, "compile => ok", "step 9 => failure", "ask p/1 9 9 9 => ok", "step 9 => success", "read 0 => [c|X2]", "again => no")
}

// outcomes are the words of machine.Running and the others, in order.
var outcomes = []string{"running", "success", "failure", "full", "stuck"}

// pair is both machines of layers 12 and 13, beside a Shell's.
type pair struct {
	m *machine.Machine
	f *fast.Machine
}

func newPair(o obj.Object, pred int, room machine.Room) (pair, api.Errno) {
	m, e := machine.New(o, pred, room)
	if e != api.OK {
		return pair{}, e
	}
	f, e := fast.New(o, pred, room)
	return pair{m: m, f: f}, e
}

// holdPair holds all that a Shell tells of its machines against the pair.
func (p pair) holdPair(t *testing.T, s *shell.Shell, arity int) {
	t.Helper()
	a, b := p.m.Snap(), p.f.Snap()
	if !machine.Same(a, b) {
		t.Fatal(a, b)
	}
	hold(t, s, fmt.Sprintf("state => %d %d %d %d %d %d", a.PC, a.CP, a.E, a.B, len(a.Cells), len(b.Trail)), "step 0 => "+outcomes[a.Outcome])
	for k := range arity + 2 {
		x, e := p.m.Read(k)
		want := e.Word()
		if e == api.OK {
			want = term.Text(x)
		}
		hold(t, s, fmt.Sprintf("read %d => %s", k, want))
	}
}

// through lets a Shell and layers 12 and 13 go on side by side, by so many steps at once, to an end, and to other answers.
func through(t *testing.T, s *shell.Shell, o obj.Object, pred, steps int, room machine.Room) {
	t.Helper()
	is := o.Preds[pred]
	p, e := newPair(o, pred, room)
	if e != api.OK {
		t.Fatal(is, e.Word())
	}
	hold(t, s, fmt.Sprintf("ask %s/%d %d %d %d => ok", is.Name, is.Arity, room.Cells, room.Words, room.Choices))
	for range 60 {
		p.holdPair(t, s, is.Arity)
		if p.m.Snap().Outcome != machine.Running {
			want := map[bool]string{true: "yes", false: "no"}[p.m.Again()]
			p.f.Again()
			hold(t, s, "again => "+want)
			continue
		}
		out := machine.Running
		for range steps {
			out = p.m.Step()
			p.f.Step()
		}
		hold(t, s, fmt.Sprintf("step %d => %s", steps, outcomes[out]))
	}
	if t.Failed() {
		t.FailNow()
	}
}

// programs are some of clauses.
var programs = []string{
	"p(a).", "p(X0) :- q(X0), r(X0).; q(a).; q(b).; q(c).; r(b).; r(c).",
	"app(nil,X0,X0).; app([X0|X1],X2,[X0|X3]) :- app(X1,X2,X3).; p(X0,X1) :- app(X0,X1,[a|[b|nil]]).",
	"p(X0) :- q(X0), cut, r(X0).; q(a).; q(b).; r(b).; r(X0).", "p(X0) :- fail.; p(b).; p(X0) :- p(X0).", "p :- p.", "p(X0) :- q(f(X0),X0).; q(X0,X0).",
	"p(X0,f(X0)) :- p(f(X0),X1).; p(a,b).", "add(z,X0,X0).; add(s(X0),X1,s(X2)) :- add(X0,X1,X2).; p(X0,X1) :- add(X0,X1,s(s(z))).; p(a,X0) :- cut, p(X0,X0).; p(c,d).",
}

// codes are some of asm lines.
var codes = []string{
	calling, predicates, "pred p/2; switch @1 @2 - @3; @1; getlis X1; univar X0; unival X0; proceed; @2; fail; @3; getstr f/2 X0; unicon a; univoid 1; proceed",
	"pred p/1; allocate 2; getlevel Y1; getvar Y0 X0; call q/1; cut Y1; putval Y0 X0; deallocate; execute q/1; pred q/1; try @1; neckcut; getcon a X0; proceed; @1; retry @2; proceed; @2; trust; getlis X0; univar X3; unival X3; proceed",
	"pred p/1; putlis X1; unival X0; unicon a; getval X0 X1; proceed", "pred p/8; putvar X9 X0; putcon a X1; putval X9 X2; putstr g/3 X3; univar X4; unival X4; unicon b; execute p/8",
}

// objects are those of programs and codes, each with the lines of which a Shell makes it.
func objects(t *testing.T) (l []obj.Object, lines [][]string) {
	t.Helper()
	for _, row := range programs {
		l = append(l, compiled(t, row))
		lines = append(lines, append(each("clause", row), "compile"))
	}
	for _, row := range codes {
		l = append(l, assembled(t, row))
		lines = append(lines, append(each("asm", row), "assemble"))
	}
	return l, lines
}

// compiled is the object of clauses.
func compiled(t *testing.T, row string) obj.Object {
	t.Helper()
	var all []comp.Clause
	for _, text := range strings.Split(row, apart) {
		c, e := comp.Parse(text)
		if e != api.OK {
			t.Fatal(text, e.Word())
		}
		all = append(all, c)
	}
	o, e, at := comp.Program(all...)
	if e != api.OK {
		t.Fatal(row, e.Word(), at)
	}
	return o
}

// P15.1, P9: each reply of step, again, read and state is what layers 12 and 13 answer of the same object.
func TestAgainstMachines(t *testing.T) {
	l, lines := objects(t)
	for n, o := range l {
		s := begun(t, lines[n]...)
		hold(t, s, "check => ok")
		for pred := range o.Preds {
			for _, steps := range []int{1, 2, 7, 100} {
				through(t, s, o, pred, steps, machine.Room{Cells: 300, Words: 200, Choices: 40})
				through(t, s, o, pred, steps, machine.Room{Cells: 10, Words: 5, Choices: 1})
				through(t, s, o, pred, steps, machine.Room{Cells: steps, Words: 3 * steps, Choices: steps / 2})
			}
		}
	}
}

// P8: what runs of clauses answers what comes of them, one answer behind the other.
func TestAnswers(t *testing.T) {
	const lists = "app(nil,X0,X0).; app([X0|X1],X2,[X0|X3]) :- app(X1,X2,X3).; rev(nil,nil).; rev([X0|X1],X2) :- rev(X1,X3), app(X3,[X0|nil],X2).; "
	for _, c := range []struct{ row, want string }{
		{"p(a).; p(b).; p(a).", "a b a"},
		{"p(X0) :- q(X0), r(X0).; q(a).; q(b).; q(c).; r(c).; r(b).", "b c"},
		{"p(X0) :- q(X0), cut.; q(a).; q(b).; p(c).", "a"},
		{"p(X0) :- q(X0), fail.; q(a).; q(b).; p(c).", "c"},
		{"p(f(X0,X0)).; p([X0|X1]) :- cut.; p(b).", "f(X2,X2) [X1|X2]"},
		{lists + "p(X0) :- rev([a|[b|[c|nil]]],X0).", "[c|[b|[a|nil]]]"},
		{lists + "p(X0) :- app(X0,X1,[a|[b|nil]]).", "nil [a|nil] [a|[b|nil]]"},
		{"p(X0) :- q(X0,X0).; q(a,b).", ""},
	} {
		s := begun(t, append(each("clause", c.row), "compile", "check", "ask p/1 999 999 99")...)
		for _, want := range strings.Fields(c.want) {
			hold(t, s, "step 100000 => success", "read 0 => "+want)
			s.Do("again")
		}
		hold(t, s, "step 100000 => failure", "again => no")
	}
}
