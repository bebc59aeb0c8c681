package verify

import (
	"slices"
	"strings"
	"testing"

	"resolvent/api"
	"resolvent/asm"
	"resolvent/code"
	"resolvent/heap"
	"resolvent/obj"
)

// program is the object of lines, with a comma and a blank between.
func program(t *testing.T, text string) obj.Object {
	t.Helper()
	o, e, at := asm.Program(strings.Split(text, ", ")...)
	if e != api.OK {
		t.Fatal(text, e.Word(), at)
	}
	return o
}

// holdFault holds Check against an error, beside which there is no Report.
func holdFault(t *testing.T, what any, o obj.Object, want api.Errno, wantAt int) {
	t.Helper()
	r, e, at := Check(o)
	if e != want || at != wantAt || len(r.States) > 0 || len(r.Needs) > 0 {
		t.Errorf("%v: %v, %v, %v; should be %v, %v", what, r, e.Word(), at, want.Word(), wantAt)
	}
}

func holdWrong(t *testing.T, text string, at int) {
	t.Helper()
	holdFault(t, text, program(t, text), api.ErrVerify, at)
}

// holdObject holds that an object can be trusted, and answers what is known of it.
func holdObject(t *testing.T, what any, o obj.Object) Report {
	t.Helper()
	r, e, at := Check(o)
	if e != api.OK || at != -1 || len(r.States) != len(o.Code) || len(r.Needs) != len(o.Code) {
		t.Fatalf("%v: %v, %v, %v; should be ok, -1", what, r, e.Word(), at)
	}
	if want, _, _ := modelCheck(o); !sameReport(r, want) {
		t.Fatalf("%v: %v; should be %v", what, r, want)
	}
	return r
}

func holdRight(t *testing.T, text string) Report {
	t.Helper()
	return holdObject(t, text, program(t, text))
}

// P11.1: the document's example.
func TestExample(t *testing.T) {
	r := holdRight(t, "pred p/1, getvar X3 X0, proceed")
	if !slices.Equal(r.States, []State{{X: 1, Env: -1, Neck: true}, {X: 9, Env: -1, Neck: true}}) || !slices.Equal(r.Needs, []Need{{}, {}}) {
		t.Error(r)
	}
	holdWrong(t, "pred p/1, getval X3 X0, proceed", 0)
}

// P11.1: what a place has, and how States and Needs compare.
func TestWords(t *testing.T) {
	if Unset != 0 || Term != 1 || Level != 2 || Mixed != 3 {
		t.Error(Unset, Term, Level, Mixed)
	}
	s := State{X: 1, Env: 2, Y: [16]int{15: 1}, Left: 3, Alt: true, Neck: true}
	for k, other := range []State{{}, {0, 2, s.Y, 3, true, true}, {1, 1, s.Y, 3, true, true}, {1, 2, [16]int{}, 3, true, true}, {1, 2, s.Y, 2, true, true}, {1, 2, s.Y, 3, false, true}, {1, 2, s.Y, 3, true, false}} {
		if s == other {
			t.Error(k)
		}
	}
	if (Need{1, 2, 3}) == (Need{Cells: 0, Words: 2, Choices: 3}) || (Need{1, 2, 3}) != (Need{Choices: 3, Words: 2, Cells: 1}) {
		t.Error("Needs compare otherwise")
	}
}

// P11.1: no instructions: without and with Preds; names alone need no code.
func TestNoInstructions(t *testing.T) {
	holdObject(t, "nothing", obj.Object{})
	holdObject(t, "empty lists", obj.Object{Names: heap.Names{Atoms: []string{}, Funs: []heap.Fun{}}, Preds: []obj.Pred{}, Code: []code.Instr{}})
	holdObject(t, "names", obj.Object{Names: heap.Names{Atoms: []string{"a"}, Funs: []heap.Fun{{Name: "f", Arity: 1}}}})
	holdFault(t, "a Pred", obj.Object{Preds: []obj.Pred{{Name: "p", Arity: 0, Entry: elsewhere}}}, api.ErrUnknown, -1)
	holdFault(t, "a Pred with an Entry", obj.Object{Preds: []obj.Pred{{Name: "p", Arity: 0, Entry: 0}}}, api.ErrForm, -1)
}

// P11.1: instructions, and no Preds.
func TestNoPreds(t *testing.T) {
	for op := range 27 {
		o := tables()
		o.Code = []code.Instr{{Op: op}, {Op: opProceed}}
		if op == opCall || op == opExecute {
			holdFault(t, op, o, api.ErrOperand, -1)
			continue
		}
		if op == 9 {
			o.Code[0].A[0] = 1
		}
		holdFault(t, op, o, api.ErrVerify, 0)
	}
}

// faulty has something wrong in its code, in place 1, and a Pred without an Entry, and is turned further.
func faulty(t *testing.T, turn func(o *obj.Object)) obj.Object {
	t.Helper()
	o := program(t, "pred p/2, getcon a X0, getval X9 X0, call q/1")
	turn(&o)
	return o
}

// P11.1: obj.Check's error comes first, each one of them, then a Pred without an Entry, then the code; beside the first two the int is -1.
func TestOrder(t *testing.T) {
	p, q := obj.Pred{Name: "p", Arity: 2, Entry: 0}, obj.Pred{Name: "q", Arity: 1, Entry: elsewhere}
	for what, c := range map[string]struct {
		turn func(o *obj.Object)
		want api.Errno
		at   int
	}{
		"full":            {func(o *obj.Object) { o.Code = append(o.Code, make([]code.Instr, 1022)...) }, api.ErrFull, -1},
		"a name":          {func(o *obj.Object) { o.Names.Atoms[0] = "A" }, api.ErrForm, -1},
		"Arity 0":         {func(o *obj.Object) { o.Names.Funs = []heap.Fun{{Name: "f", Arity: 0}} }, api.ErrForm, -1},
		"Arity 9":         {func(o *obj.Object) { o.Preds[0].Arity = 9 }, api.ErrForm, -1},
		"twice":           {func(o *obj.Object) { o.Preds = append(o.Preds, p) }, api.ErrTwice, -1},
		"one Entry":       {func(o *obj.Object) { o.Preds[1].Entry = 0 }, api.ErrForm, -1},
		"an Entry behind": {func(o *obj.Object) { o.Preds[1].Entry = 3 }, api.ErrForm, -1},
		"an Entry ahead":  {func(o *obj.Object) { o.Preds[1].Entry = -1 }, api.ErrForm, -1},
		"an Op":           {func(o *obj.Object) { o.Code[2].Op = 27 }, api.ErrOp, -1},
		"an operand":      {func(o *obj.Object) { o.Code[2].A[1] = 1 }, api.ErrOperand, -1},
		"a Pred":          {func(o *obj.Object) { o.Code[2].A[0] = 2 }, api.ErrOperand, -1},
		"a Label":         {func(o *obj.Object) { o.Code[2] = code.Make(opTry, 3) }, api.ErrOperand, -1},
		"nothing":         {func(o *obj.Object) {}, api.ErrUnknown, -1},
		"no Entries":      {func(o *obj.Object) { o.Preds[0].Entry = elsewhere }, api.ErrUnknown, -1},
		"the other Pred":  {func(o *obj.Object) { o.Preds = []obj.Pred{q, p} }, api.ErrUnknown, -1},
		"never called":    {func(o *obj.Object) { o.Code[2] = code.Instr{} }, api.ErrUnknown, -1},
		"the code":        {func(o *obj.Object) { o.Preds[1].Entry = 2 }, api.ErrVerify, 1},
		"q is gone":       {func(o *obj.Object) { o.Preds, o.Code[2] = o.Preds[:1], code.Instr{} }, api.ErrVerify, 1},
	} {
		o := faulty(t, c.turn)
		if e := obj.Check(o); c.at < 0 && c.want != api.ErrUnknown && e != c.want {
			t.Error(what, e.Word())
		}
		holdFault(t, what, o, c.want, c.at)
	}
}

// P11.1: an object right in all but that one of its Preds has no Entry, and then has it.
func TestUnknown(t *testing.T) {
	o := program(t, "pred p/0, execute q/0, proceed")
	o.Preds = slices.Insert(o.Preds, 1, obj.Pred{Name: "r", Arity: 8, Entry: elsewhere})
	o.Code[0].A[0] = 2
	o.Preds[2].Entry = 1
	holdFault(t, "r", o, api.ErrUnknown, -1)
	o.Preds[1].Entry, o.Preds[2].Entry = 1, elsewhere
	holdFault(t, "q", o, api.ErrUnknown, -1)
	o.Preds = slices.Delete(o.Preds, 2, 3)
	o.Code[0].A[0] = 1
	holdFault(t, "r/8 needs registers", o, api.ErrVerify, 0)
	o.Preds[1].Arity = 0
	holdObject(t, "all", o)
}

// P11.1: of several faults the first place counts, of whichever kind it is and in whichever predicate; of what comes in a place it is no matter which is wrong.
func TestFirstFault(t *testing.T) {
	clash := "switch @2 @3 - -, @2, allocate 1, @3, fail"  // in its third place
	late := ", proceed, proceed"                           // not come to, in its second place
	bad := "getcon a X9"                                   // in its first place
	none := "getcon a X0"                                  // nothing wrong
	end := ", pred z/0, neckcut"                           // nothing behind it
	all := "pred p/1, " + none + ", " + clash + late + end // 3, 4, 5, 6
	for _, c := range []struct {
		text string
		at   int
	}{
		{all, 3},
		{"pred p/1, " + none + late + ", " + bad + end, 2},
		{"pred p/1, " + bad + late + end, 0},
		{"pred p/1, " + none + ", proceed" + end, 2},
		{"pred p/1, " + none + ", proceed" + end + ", pred p/2, " + bad, 2},
		{bad + ", pred p/1, " + bad, 0},
		{"proceed, pred p/1, proceed", 0},
		// In one place: not come to, and its asks aren't so.
		{"pred p/1, proceed, " + bad + ", " + bad, 1},
		// In one place: what comes doesn't fit, its asks aren't so, and it goes where nothing is.
		{"pred p/1, switch @1 @2 - -, @1, allocate 1, @2, " + bad, 2},
	} {
		holdWrong(t, c.text, c.at)
	}
}

// P11.1: Preds whose Entries aren't in rising order, in all orders; each has its own arity at its Entry.
func TestEntriesInAnyOrder(t *testing.T) {
	o := program(t, "pred p/1, execute p/0, pred p/3, getcon a X2, execute p/1, pred p/0, proceed, pred p/8, getval X7 X6, fail")
	want := holdObject(t, "rising", o)
	var xs []uint32
	for _, s := range want.States {
		xs = append(xs, s.X)
	}
	if !slices.Equal(xs, []uint32{1, 7, 7, 0, 255, 255}) {
		t.Error(xs)
	}
	for a := range 4 {
		for b := range 4 {
			for c := range 4 {
				d := 6 - a - b - c
				if a == b || a == c || b == c || d < 0 || d > 3 {
					continue
				}
				x := copied(o)
				for n, from := range []int{a, b, c, d} {
					x.Preds[n] = o.Preds[from]
				}
				for n, i := range x.Code {
					if i.Op == opExecute {
						x.Code[n].A[0] = slices.Index([]int{a, b, c, d}, i.A[0])
					}
				}
				if r := holdObject(t, x.Preds, x); !sameReport(r, want) {
					t.Error(x.Preds, r)
				}
				x.Code[4] = code.Make(1, 8, 8)
				holdFault(t, x.Preds, x, api.ErrVerify, 4)
			}
		}
	}
}

// P11.1: two Preds with one Entry, in whichever place.
func TestOneEntry(t *testing.T) {
	for n := range 2 {
		o := program(t, "pred p/0, proceed, pred q/0, proceed")
		o.Preds[n].Entry = o.Preds[1-n].Entry
		holdFault(t, n, o, api.ErrForm, -1)
	}
}

// P11.1: as many instructions and as many Preds as there may be.
func TestGreatest(t *testing.T) {
	var o obj.Object
	for n := range 64 {
		o.Preds = append(o.Preds, obj.Pred{Name: "p" + string(rune('a'+n/9)), Arity: n % 9, Entry: 16 * (63 - n)})
	}
	for n := range 1024 {
		if n%16 == 15 {
			o.Code = append(o.Code, code.Make(opExecute, 0))
		} else {
			o.Code = append(o.Code, code.Make(12, 0, n%16))
		}
	}
	o.Names.Atoms = []string{"a"}
	r := holdObject(t, "all", o)
	if r.States[1023].X != 1<<15-1 || r.States[1008].X != 0 || r.States[0].X != 0 || r.States[32].X != 127 || r.States[16*55].X != 255 {
		t.Error(r.States[1023], r.States[1008], r.States[0], r.States[32], r.States[16*55])
	}
	o.Code[1023] = code.Make(12, 0, 0)
	holdFault(t, "the last one", o, api.ErrVerify, 1023)
	one := obj.Object{Preds: []obj.Pred{{Name: "p", Arity: 0, Entry: 0}}, Code: make([]code.Instr, 1024)}
	for n := range 1023 {
		one.Code[n] = code.Make(10, 0, 0)
	}
	if r := holdObject(t, "one", one); r.Needs[0] != (Need{Cells: 1023}) || r.Needs[1022] != (Need{Cells: 1}) {
		t.Error(r.Needs)
	}
}
