package sidebyside

import (
	"fmt"
	"slices"
	"strings"
	"testing"

	"resolvent/api"
	"resolvent/asm"
	"resolvent/cell"
	"resolvent/fast"
	"resolvent/machine"
	"resolvent/obj"
	"resolvent/verify"
)

// program is the object of lines, with a comma and a blank between.
func program(t *testing.T, text string) obj.Object {
	t.Helper()
	o, e, at := asm.Program(strings.Split(text, ", ")...)
	if e != api.OK {
		t.Fatal(text, e.Word(), at)
	}
	if _, e, at := verify.Check(o); e != api.OK {
		t.Fatal(text, e.Word(), at)
	}
	return o
}

var large = machine.Room{Cells: 1000, Words: 1000, Choices: 100}

// side is both machines, and the model, of one object.
type side struct {
	t    *testing.T
	what any
	o    obj.Object
	m    *machine.Machine
	f    *fast.Machine
	w    *model
}

func begin(t *testing.T, o obj.Object, pred int, room machine.Room, seen map[string]int) *side {
	t.Helper()
	m, e := machine.New(o, pred, room)
	f, e2 := fast.New(o, pred, room)
	if e != api.OK || e2 != api.OK {
		t.Fatal(o, pred, room, e.Word(), e2.Word())
	}
	s := &side{t, []any{o, pred, room}, o, m, f, newModel(o, pred, room, seen)}
	s.hold()
	return s
}

func beginText(t *testing.T, text string, room machine.Room) *side {
	t.Helper()
	s := begin(t, program(t, text), 0, room, map[string]int{})
	s.what = []any{text, room}
	return s
}

// hold holds that both are as the model, and never Stuck.
func (s *side) hold() {
	s.t.Helper()
	a, b, c := s.m.Snap(), s.f.Snap(), s.w.snap()
	if !machine.Same(a, c) || !machine.Same(b, c) || a.Outcome == machine.Stuck {
		s.t.Fatalf("%v: after %v:\nmachine %v\nfast    %v\nmodel   %v", s.what, s.w.seen, told(s.o, a), told(s.o, b), told(s.o, c))
	}
}

func (s *side) step() int {
	s.t.Helper()
	a, b, c := s.m.Step(), s.f.Step(), s.w.step()
	if a != c || b != c {
		s.t.Fatal(s.what, a, b, c)
	}
	s.hold()
	return c
}

func (s *side) again() bool {
	s.t.Helper()
	a, b, c := s.m.Again(), s.f.Again(), s.w.again()
	if a != c || b != c {
		s.t.Fatal(s.what, a, b, c)
	}
	s.hold()
	return c
}

// run does so many steps at most, one by one.
func (s *side) run(steps int) int {
	s.t.Helper()
	for range steps {
		if s.step() != machine.Running {
			break
		}
	}
	return s.w.out
}

// tell is what the Snap says, in words: what is as at the beginning is left out.
func (s *side) tell() string { return told(s.o, s.m.Snap()) }

func told(o obj.Object, s machine.Snap) string {
	outcomes := []string{"running", "success", "failure", "full", "stuck"}
	l := []string{fmt.Sprint(outcomes[s.Outcome], " ", s.PC)}
	part := func(is bool, words ...any) {
		if is {
			l = append(l, strings.TrimSpace(fmt.Sprintln(words...)))
		}
	}
	part(s.CP != -1, "cp", s.CP)
	part(s.E != -1, "e", s.E)
	part(s.B != 0, "b", s.B)
	part(s.B0 != 0, "b0", s.B0)
	part(s.Write, "write")
	part(s.S != 0, "s", s.S)
	part(len(s.Cells) > 0, texts(s.Cells))
	part(len(s.Trail) > 0, "trail", strings.Trim(fmt.Sprint(s.Trail), "[]"))
	report, _, _ := verify.Check(o)
	known := report.States[s.PC]
	for k, c := range s.X {
		part(known.X&(1<<k) != 0 && len(s.Cells) > 0 || c != 0, fmt.Sprint("X", k), c.Text())
	}
	for k, y := range s.Y {
		part(known.Y[k] == verify.Term, fmt.Sprint("Y", k), cell.Cell(y).Text())
		part(known.Y[k] == verify.Level, fmt.Sprint("Y", k), y)
		part(known.Y[k]%3 == 0 && y != 0, fmt.Sprint("Y", k), "has", y)
	}
	return strings.Join(l, "; ")
}

func texts(l []cell.Cell) string {
	var words []string
	for _, c := range l {
		words = append(words, c.Text())
	}
	return strings.Join(words, ", ")
}

// copied is an object in memory of its own.
func copied(o obj.Object) obj.Object {
	o.Names.Atoms, o.Names.Funs = slices.Clone(o.Names.Atoms), slices.Clone(o.Names.Funs)
	o.Preds, o.Code = slices.Clone(o.Preds), slices.Clone(o.Code)
	return o
}
