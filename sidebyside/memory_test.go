package sidebyside

import (
	"math/rand"
	"slices"
	"testing"

	"resolvent/api"
	"resolvent/cell"
	"resolvent/code"
	"resolvent/fast"
	"resolvent/heap"
	"resolvent/machine"
	"resolvent/obj"
	"resolvent/term"
)

// P12.1: Snaps are the same if all of them is, and aren't if one part alone is another one; nil and empty lists are one.
func TestSame(t *testing.T) {
	full := func() machine.Snap {
		s := machine.Snap{Outcome: 1, PC: 2, CP: 3, E: 4, B: 5, B0: 6, Write: true, S: 7, Cells: []cell.Cell{8, 16}, Trail: []int{9, 10}}
		for k := range s.X {
			s.X[k], s.Y[k] = cell.Cell(8*k), uint64(k)
		}
		return s
	}
	turns := []func(s *machine.Snap){
		func(s *machine.Snap) { s.Outcome = 0 },
		func(s *machine.Snap) { s.PC = 0 },
		func(s *machine.Snap) { s.CP = -1 },
		func(s *machine.Snap) { s.E = -1 },
		func(s *machine.Snap) { s.B++ },
		func(s *machine.Snap) { s.B0++ },
		func(s *machine.Snap) { s.Write = false },
		func(s *machine.Snap) { s.S = 0 },
		func(s *machine.Snap) { s.Cells[0] = 0 },
		func(s *machine.Snap) { s.Cells[1]++ },
		func(s *machine.Snap) { s.Cells = s.Cells[:1] },
		func(s *machine.Snap) { s.Cells = append(s.Cells, 0) },
		func(s *machine.Snap) { s.Cells = nil },
		func(s *machine.Snap) { s.Cells[0], s.Cells[1] = s.Cells[1], s.Cells[0] },
		func(s *machine.Snap) { s.Trail[0]++ },
		func(s *machine.Snap) { s.Trail[1]-- },
		func(s *machine.Snap) { s.Trail = s.Trail[1:] },
		func(s *machine.Snap) { s.Trail = append(s.Trail, 0) },
		func(s *machine.Snap) { s.Trail = []int{} },
	}
	for k := range 16 {
		turns = append(turns, func(s *machine.Snap) { s.X[k]++ }, func(s *machine.Snap) { s.Y[k]++ }, func(s *machine.Snap) { s.Y[k] += 1 << 63 })
	}
	if !machine.Same(full(), full()) || !machine.Same(machine.Snap{}, machine.Snap{}) {
		t.Error("not the same")
	}
	for n, turn := range turns {
		a, b := full(), full()
		turn(&b)
		if machine.Same(a, b) || machine.Same(b, a) || !machine.Same(b, b) {
			t.Error(n)
		}
	}
	if !machine.Same(machine.Snap{Cells: []cell.Cell{}, Trail: []int{}}, machine.Snap{}) {
		t.Error("nil and empty lists")
	}
}

// busy is a program that has cells, a trail, registers, an environment and choices soon.
const busy = "pred p/2, allocate 3, getlevel Y2, getvar Y0 X0, putval X1 X0, call q/1, putval Y0 X0, call q/1, putvar Y1 X1, getval Y0 X1, cut Y2, deallocate, proceed, pred q/1, try @1, getcon a X0, proceed, @1, retry @2, getstr f/2 X0, unicon a, univar X1, proceed, @2, trust, getlis X0, univar X1, unicon b, proceed"

// spoil turns all that a Snap has in memory that it may share, its spare room, too.
func spoil(s machine.Snap) {
	for k := range s.Cells[:cap(s.Cells)] {
		s.Cells[:cap(s.Cells)][k] = 77
	}
	for k := range s.Trail[:cap(s.Trail)] {
		s.Trail[:cap(s.Trail)][k] = 77
	}
}

// P12.4, P13.3: Snaps and terms stay as they are, whatever comes behind them, and nothing comes of what is done with them.
func TestNewMemory(t *testing.T) {
	s := beginText(t, busy, large)
	var snaps, was []machine.Snap
	for range 60 {
		a, b := s.m.Snap(), s.f.Snap()
		snaps = append(snaps, a, b)
		for _, x := range []machine.Snap{a, b} {
			x.Cells, x.Trail = slices.Clone(x.Cells), slices.Clone(x.Trail)
			was = append(was, x)
		}
		spoil(s.m.Snap())
		spoil(s.f.Snap())
		for k := range 2 {
			x, _ := s.m.Read(k)
			before := term.Text(x)
			spoilTerm(&x)
			if y, _ := s.m.Read(k); term.Text(y) != before {
				t.Fatal(before, term.Text(y))
			}
		}
		s.hold()
		s.through(1)
	}
	for n := range snaps {
		if !machine.Same(snaps[n], was[n]) {
			t.Fatal(n, snaps[n], was[n])
		}
	}
	if len(s.m.Snap().Cells) < 2 {
		t.Error(s.tell())
	}
}

func spoilTerm(t *term.Term) {
	for k := range t.Args {
		spoilTerm(&t.Args[k])
	}
	*t = term.Term{Kind: 9, Name: "other"}
}

// roomy is a list with spare room, in which something stands.
func roomy[T any](l []T, spare T) []T { return append(slices.Clone(l), spare, spare)[:len(l)] }

func roomyObject(o obj.Object) obj.Object {
	return obj.Object{Names: heap.Names{Atoms: roomy(o.Names.Atoms, "spare"), Funs: roomy(o.Names.Funs, heap.Fun{Name: "spare", Arity: 7})}, Preds: roomy(o.Preds, obj.Pred{Name: "spare", Arity: 7}), Code: roomy(o.Code, code.Make(26, 7))}
}

// whole is an object with its lists' spare room.
func whole(o obj.Object) obj.Object {
	return obj.Object{Names: heap.Names{Atoms: o.Names.Atoms[:cap(o.Names.Atoms)], Funs: o.Names.Funs[:cap(o.Names.Funs)]}, Preds: o.Preds[:cap(o.Preds)], Code: o.Code[:cap(o.Code)]}
}

// Rules 4 and 5: what is handed in is neither changed, its spare room neither, nor kept: turned at once behind New, and behind each step, it is no matter.
func TestHandedIn(t *testing.T) {
	o := program(t, busy)
	s := beginText(t, busy, large)
	mine := roomyObject(o)
	before := copied(whole(mine))
	m, e := machine.New(mine, 0, large)
	f, e2 := fast.New(mine, 0, large)
	if e != api.OK || e2 != api.OK {
		t.Fatal(e.Word(), e2.Word())
	}
	m.Run(200)
	f.Run(200)
	m.Again()
	f.Again()
	if !obj.Same(whole(mine), before) {
		t.Fatal(mine)
	}
	m, _ = machine.New(mine, 0, large)
	f, _ = fast.New(mine, 0, large)
	r := rand.New(rand.NewSource(51))
	for range 200 {
		turnAll(r, mine)
		a, b := m.Snap(), f.Snap()
		if c := s.m.Snap(); !machine.Same(a, c) || !machine.Same(b, c) {
			t.Fatal(told(o, a), told(o, b), told(o, c))
		}
		for k := range 2 {
			x, e := m.Read(k)
			if y, e2 := s.m.Read(k); e != e2 || !term.Same(x, y) {
				t.Fatal(term.Text(x), term.Text(y))
			}
		}
		if s.w.out == machine.Success {
			m.Again()
			f.Again()
		} else {
			m.Step()
			f.Step()
		}
		s.through(1)
	}
}

// turnAll turns all that an object has.
func turnAll(r *rand.Rand, o obj.Object) {
	for k := range o.Code {
		o.Code[k] = code.Make(r.Intn(30), r.Intn(5), r.Intn(5))
	}
	for k := range o.Preds {
		o.Preds[k] = obj.Pred{Name: "other", Arity: r.Intn(9), Entry: r.Intn(9)}
	}
	for k := range o.Names.Atoms {
		o.Names.Atoms[k] = "other"
	}
	for k := range o.Names.Funs {
		o.Names.Funs[k] = heap.Fun{Name: "other", Arity: 1 + r.Intn(8)}
	}
}

// Rule 5: two Machines of one object don't hang on each other.
func TestTwo(t *testing.T) {
	a, b := beginText(t, busy, large), beginText(t, busy, large)
	a.through(25)
	b.through(40)
	c := beginText(t, busy, large)
	c.through(25)
	if a.tell() != c.tell() {
		t.Error(a.tell(), c.tell())
	}
	c.through(15)
	if b.tell() != c.tell() {
		t.Error(b.tell(), c.tell())
	}
}
