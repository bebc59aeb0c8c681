package sidebyside

import (
	"math"
	"strconv"
	"strings"
	"testing"

	"resolvent/api"
	"resolvent/cell"
	"resolvent/code"
	"resolvent/fast"
	"resolvent/machine"
	"resolvent/obj"
	"resolvent/term"
)

// holdNew holds what New of both answers.
func holdNew(t *testing.T, o obj.Object, pred int, room machine.Room, want api.Errno) {
	t.Helper()
	m, e := machine.New(o, pred, room)
	f, e2 := fast.New(o, pred, room)
	if e != want || e2 != want || (m != nil) != (want == api.OK) || (f != nil) != (want == api.OK) {
		t.Error(o, pred, room, e.Word(), e2.Word(), m != nil, f != nil)
	}
}

// P12.1, P13.1: verify.Check's error comes first, then a Pred's number, then the room.
func TestNewErrors(t *testing.T) {
	right := program(t, "pred p/1, proceed, pred q/2, execute p/1")
	far := []int{-1, 2, 3, 63, 64, math.MaxInt, math.MinInt, -2}
	none := machine.Room{Cells: -1, Words: -1, Choices: -1}
	for _, pred := range far {
		holdNew(t, right, pred, large, api.ErrUnknown)
		holdNew(t, right, pred, none, api.ErrUnknown)
	}
	for pred := range 2 {
		holdNew(t, right, pred, large, api.OK)
		holdNew(t, right, pred, machine.Room{}, api.OK)
		holdNew(t, right, pred, none, api.ErrArg)
	}
	holdNew(t, obj.Object{}, 0, large, api.ErrUnknown)
	holdNew(t, obj.Object{}, 0, none, api.ErrUnknown)
	for _, c := range []struct {
		turn func(o *obj.Object)
		want api.Errno
	}{
		{func(o *obj.Object) { o.Code = make([]code.Instr, 1025) }, api.ErrFull},
		{func(o *obj.Object) { o.Preds[0].Name = "P" }, api.ErrForm},
		{func(o *obj.Object) { o.Preds[1] = obj.Pred{Name: "p", Arity: 1, Entry: 1} }, api.ErrTwice},
		{func(o *obj.Object) { o.Preds[1].Entry = 0 }, api.ErrForm},
		{func(o *obj.Object) { o.Code[0].Op = 27 }, api.ErrOp},
		{func(o *obj.Object) { o.Code[1].A[0] = 2 }, api.ErrOperand},
		{func(o *obj.Object) { o.Preds[1].Entry = obj.None }, api.ErrUnknown},
		{func(o *obj.Object) { o.Code[0] = code.Make(code.GetVal, 1, 0) }, api.ErrVerify},
		{func(o *obj.Object) { o.Code[1] = code.Make(code.GetCon, 0, 0) }, api.ErrOperand},
		{func(o *obj.Object) { o.Preds = o.Preds[:1]; o.Code[1] = code.Make(code.Fail) }, api.ErrVerify},
	} {
		o := copied(right)
		c.turn(&o)
		for _, pred := range append(far, 0, 1) {
			holdNew(t, o, pred, large, c.want)
			holdNew(t, o, pred, none, c.want)
		}
	}
}

// P12.1, P13.1: whichever predicate is asked, it begins at its Entry, in whatever order they stand.
func TestEntries(t *testing.T) {
	o := program(t, "pred p/1, getcon a X0, execute r/0, pred q/2, getcon b X1, execute p/1, pred r/0, proceed")
	o.Preds[0], o.Preds[1], o.Preds[2] = o.Preds[1], o.Preds[2], o.Preds[0] // r, q, p
	o.Code[1].A[0], o.Code[3].A[0] = 0, 2
	for pred, want := range []string{"running 4", "running 2; ref 0, ref 1; X0 ref 0; X1 ref 1", "running 0; ref 0; X0 ref 0"} {
		s := begin(t, o, pred, large, map[string]int{})
		if s.tell() != want {
			t.Error(pred, s.tell(), "should be", want)
		}
		s.run(9)
		if want := []string{"success 4", "success 4; con 0, con 1", "success 4; con 0"}[pred]; s.tell() != want {
			t.Error(pred, s.tell(), "should be", want)
		}
	}
}

// P12.1, P13.1: the nil Machine.
func TestNil(t *testing.T) {
	var m *machine.Machine
	var f *fast.Machine
	for _, n := range []int{0, 1, -1, math.MaxInt, math.MinInt} {
		if m.Run(n) != machine.Stuck || f.Run(n) != machine.Stuck {
			t.Error(n)
		}
		if x, e := m.Read(n); e != api.ErrArg || !term.Same(x, term.Term{}) {
			t.Error(n, x, e.Word())
		}
	}
	if m.Step() != machine.Stuck || f.Step() != machine.Stuck || m.Again() || f.Again() {
		t.Error("nil")
	}
	if !machine.Same(m.Snap(), machine.Snap{}) || !machine.Same(f.Snap(), machine.Snap{}) {
		t.Error(m.Snap(), f.Snap())
	}
}

// P12.1, P13.1: Run does as many steps as it is told, and no more; of none, and of fewer than none, it tells the outcome.
func TestRun(t *testing.T) {
	const text = "pred p/2, putcon a X2, getval X2 X0, getcon b X1, try @1, proceed, @1, trust, execute p/2"
	o := program(t, text)
	for n := range 20 {
		s := beginText(t, text, large)
		s.run(n)
		m, _ := machine.New(o, 0, large)
		f, _ := fast.New(o, 0, large)
		a, b := m.Run(n), f.Run(n)
		if a != s.w.out || b != s.w.out || !machine.Same(m.Snap(), s.m.Snap()) || !machine.Same(f.Snap(), s.m.Snap()) {
			t.Error(n, a, b, s.w.out)
		}
		for _, none := range []int{0, -1, math.MinInt} {
			if m.Run(none) != s.w.out || f.Run(none) != s.w.out || !machine.Same(m.Snap(), s.m.Snap()) || !machine.Same(f.Snap(), s.m.Snap()) {
				t.Error(n, none)
			}
		}
	}
}

// P1: as many steps as can be said end, where the machine isn't Running any more.
func TestRunFar(t *testing.T) {
	for text, want := range map[string]int{
		"pred p/1, getlis X0, unicon a, univar X0, execute p/1":         machine.Full,
		"pred p/1, getcon a X0, proceed":                                machine.Success,
		"pred p/1, getcon a X0, getcon b X0, proceed":                   machine.Failure,
		"pred p/1, try @1, execute p/1, @1, trust, proceed":             machine.Full,
		"pred p/0, allocate 3, call p/0, deallocate, proceed":           machine.Full,
		"pred p/1, try @1, fail, @1, trust, getlis X0, univoid 2, fail": machine.Failure,
	} {
		o := program(t, text)
		m, _ := machine.New(o, 0, large)
		f, _ := fast.New(o, 0, large)
		if a, b := m.Run(math.MaxInt), f.Run(math.MaxInt); a != want || b != want {
			t.Error(text, a, b)
		}
	}
}

// P12.1, P13.1: Again of one that has Success asks for another answer, of others it does nothing.
func TestAgain(t *testing.T) {
	s := beginText(t, "pred p/1, try @1, getcon a X0, proceed, @1, retry @2, fail, @2, trust, getcon b X0, proceed", large)
	wants := []string{"running 0; ref 0; X0 ref 0", "running 1; b 1; ref 0; X0 ref 0", "running 2; b 1; con 0; trail 0; X0 ref 0"}
	for _, want := range wants {
		if s.again() || s.tell() != want {
			t.Error(s.tell(), "should be", want)
		}
		s.step()
	}
	s.stays()
	if s.w.out != machine.Success || !s.again() || s.tell() != "running 3; b 1; ref 0; X0 ref 0" {
		t.Error(s.tell())
	}
	if s.run(9) != machine.Success || s.tell() != "success 7; con 1; X0 ref 0" {
		t.Error(s.tell())
	}
	if s.again() || s.tell() != "failure 7; con 1; X0 ref 0" || s.again() || s.tell() != "failure 7; con 1; X0 ref 0" {
		t.Error(s.tell())
	}
	s.stays()
	// There is another way, but no room for it.
	s = beginText(t, "pred p/1, try @1, getcon a X0, proceed, @1, trust, putvar X1 X1, proceed", machine.Room{Cells: 1, Choices: 1})
	if s.run(9) != machine.Success || s.again() || s.tell() != "full 3; b 1; ref 0; X0 ref 0" {
		t.Error(s.tell())
	}
	s.stays()
}

// holdRead holds what Read answers: a term's text, or an error's word.
func holdRead(t *testing.T, s *side, i int, want string) {
	t.Helper()
	x, e := s.m.Read(i)
	got := term.Text(x)
	if e != api.OK {
		got = e.Word()
		if !term.Same(x, term.Term{}) {
			t.Error(s.what, i, x)
		}
	}
	if got != want {
		t.Error(s.what, i, got, "should be", want)
	}
}

// P12.1: Read of each argument, ahead of all steps, behind the last one, and of those that there aren't.
func TestRead(t *testing.T) {
	s := beginText(t, "pred p/4, getcon a X0, getstr f/2 X1, unival X0, univar X5, getval X3 X2, getlis X5, unicon b, unival X2, putcon c X0, proceed", large)
	for k, want := range []string{"X0", "X1", "X2", "X3"} {
		holdRead(t, s, k, want)
	}
	if s.run(99) != machine.Success {
		t.Fatal(s.tell())
	}
	for k, want := range []string{"a", "f(a,[b|X2])", "X2", "X2"} {
		holdRead(t, s, k, want)
	}
	for _, k := range []int{-1, 4, 5, 8, math.MaxInt, math.MinInt} {
		holdRead(t, s, k, "argument")
	}
	s = beginText(t, "pred p/8, getcon a X7, fail", large)
	s.run(9)
	for k := range 9 {
		holdRead(t, s, k, []string{"X0", "X1", "X2", "X3", "X4", "X5", "X6", "a", "argument"}[k])
	}
	s = beginText(t, "pred p/0, putvar X0 X0, proceed", large)
	s.run(9)
	for _, k := range []int{-1, 0, 1} {
		holdRead(t, s, k, "argument")
	}
	// Back at a choice what was bound is undone; the answer stays that was read.
	s = beginText(t, "pred p/1, try @1, getcon a X0, proceed, @1, trust, proceed", large)
	s.run(9)
	x, _ := s.m.Read(0)
	s.again()
	holdRead(t, s, 0, "X0")
	if term.Text(x) != "a" {
		t.Error(term.Text(x))
	}
}

// P12.1: without room for the arguments' cells there is nothing to read, and no register has anything.
func TestReadWithoutArguments(t *testing.T) {
	for arity := 1; arity <= 8; arity++ {
		text := "pred p/" + strconv.Itoa(arity) + ", proceed"
		for cells := range arity {
			s := beginText(t, text, machine.Room{Cells: cells, Words: 9, Choices: 9})
			snap := s.m.Snap()
			if snap.Outcome != machine.Full || snap.PC != 0 || len(snap.Cells) != 0 || snap.X != [16]cell.Cell{} {
				t.Error(text, cells, snap)
			}
			for k := -1; k <= 9; k++ {
				holdRead(t, s, k, "argument")
			}
			s.stays()
		}
		s := beginText(t, text, machine.Room{Cells: arity})
		for k := range arity {
			holdRead(t, s, k, regX(k))
		}
	}
}

// P12.1: heap.Read's errors: a term within itself; a variable's place above 999; more than 10000 parts.
func TestReadErrors(t *testing.T) {
	s := beginText(t, "pred p/3, getlis X0, unival X1, unival X0, getstr f/1 X1, unival X2, getcon a X2, proceed", large)
	s.run(99)
	holdRead(t, s, 0, "cycle")
	holdRead(t, s, 1, "f(a)")
	holdRead(t, s, 2, "a")
	for _, c := range []struct {
		cells int
		want  string
	}{{1001, "full"}, {1000, ""}} {
		s := beginText(t, "pred p/1, getstr f/1 X0, univar X0, execute p/1", machine.Room{Cells: c.cells})
		s.m.Run(9999)
		last := len(s.m.Snap().Cells) - 1
		want := strings.Repeat("f(", last/2) + regX(last) + strings.Repeat(")", last/2)
		if c.want != "" {
			want = c.want
		}
		holdRead(t, s, 0, want)
	}
	for levels, want := range map[int]string{12: "", 13: "full"} {
		s := beginText(t, "pred p/1, "+tree(levels, 1, 2)+", getval X0 X1, proceed", large)
		s.run(99)
		x, e := s.m.Read(0)
		if want == "" && (e != api.OK || term.Size(x) != 8191) || want != "" && e != api.ErrFull {
			t.Error(levels, e.Word(), term.Size(x))
		}
	}
}

// tree is lines that put a tree of so many levels, f of two of one less, into a register; another one helps.
func tree(levels, to, other int) string {
	if levels == 0 {
		return "putcon a " + regX(to)
	}
	part := ", unival " + regX(other)
	return tree(levels-1, other, to) + ", putstr f/2 " + regX(to) + part + part
}
