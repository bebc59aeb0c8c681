package obj

import (
	"math"
	"math/rand"
	"strings"
	"testing"

	"resolvent/api"
	"resolvent/code"
	"resolvent/heap"
)

// changed is an object with something turned in it.
func changed(o Object, turn func(o *Object)) Object {
	o = copied(o)
	turn(&o)
	return o
}

// base is an object with something of each kind.
func base() Object {
	return Object{
		Names: heap.Names{Atoms: []string{"a", "b"}, Funs: []heap.Fun{{Name: "f", Arity: 1}, {Name: "f", Arity: 2}}},
		Preds: []Pred{{"p", 1, 0}, {"p", 2, 3}, {"q", 0, None}},
		Code:  []code.Instr{code.Make(code.Try, 2), code.Make(code.GetCon, 1, 0), code.Make(code.Switch, 3, code.Nowhere, 0, 3), code.Make(code.Execute, 2)},
	}
}

// holdCheck holds Check, and what Encode answers then, against what should be.
func holdCheck(t *testing.T, what any, o Object, want api.Errno) {
	t.Helper()
	if e := Check(o); e != want {
		t.Errorf("%v: %v; should be %v", what, e.Word(), want.Word())
	}
	if b, e := Encode(o); e != want || (len(b) == 0) != (want != api.OK) {
		t.Errorf("%v: Encode: %d bytes, %v; should be %v", what, len(b), e.Word(), want.Word())
	}
}

// P8.1: None is the document's, and that of a Preds's comparison too.
func TestNone(t *testing.T) {
	if None != 65535 || (Pred{"p", 1, 65535}) != (Pred{"p", 1, None}) || (Pred{"p", 1, 0}) == (Pred{"p", 1, 1}) || (Pred{"p", 1, 0}) == (Pred{"p", 0, 0}) || (Pred{"p", 1, 0}) == (Pred{"q", 1, 0}) {
		t.Error("Preds compare otherwise")
	}
}

// P8.1: objects that are right, nil and empty ones among them.
func TestCheckRight(t *testing.T) {
	holdCheck(t, "base", base(), api.OK)
	holdCheck(t, "nothing", Object{}, api.OK)
	holdCheck(t, "empty", Object{Names: heap.Names{Atoms: []string{}, Funs: []heap.Fun{}}, Preds: []Pred{}, Code: []code.Instr{}}, api.OK)
	// A name may be an atom's, a Fun's of several arities, and a Pred's of several, and an Op's.
	o := Object{Names: heap.Names{Atoms: []string{"call"}}}
	for n := range 9 {
		o.Preds = append(o.Preds, Pred{"call", n, None})
		if n > 0 {
			o.Names.Funs = append(o.Names.Funs, heap.Fun{Name: "call", Arity: n})
		}
	}
	holdCheck(t, "one name", o, api.OK)
}

// P8.1: tables of as many as there may be, and of one more.
func TestCheckFull(t *testing.T) {
	for n, c := range []struct {
		atoms, funs, preds, instrs int
		want                       api.Errno
	}{
		{256, 256, 64, 1024, api.OK}, {256, 0, 0, 0, api.OK}, {0, 256, 0, 0, api.OK}, {0, 0, 64, 0, api.OK}, {0, 0, 0, 1024, api.OK},
		{257, 0, 0, 0, api.ErrFull}, {0, 257, 0, 0, api.ErrFull}, {0, 0, 65, 0, api.ErrFull}, {0, 0, 0, 1025, api.ErrFull},
		{257, 256, 64, 1024, api.ErrFull}, {256, 257, 64, 1024, api.ErrFull}, {256, 256, 65, 1024, api.ErrFull}, {256, 256, 64, 1025, api.ErrFull},
		{1 << 16, 0, 0, 0, api.ErrFull}, {0, 1 << 16, 0, 0, api.ErrFull}, {0, 0, 1 << 16, 0, api.ErrFull}, {0, 0, 0, 1 << 16, api.ErrFull}, {1<<16 + 1, 0, 0, 0, api.ErrFull},
	} {
		holdCheck(t, n, sized(c.atoms, c.funs, c.preds, c.instrs), c.want)
	}
}

// P8.1: names that are none, in each table, in each place.
func TestCheckNames(t *testing.T) {
	long := strings.Repeat("a", 32)
	for _, c := range []struct {
		name string
		want api.Errno
	}{
		{"z", api.OK}, {"z0", api.OK}, {long, api.OK}, {"a" + strings.Repeat("9", 31), api.OK},
		{"", api.ErrForm}, {long + "a", api.ErrForm}, {strings.Repeat("a", 256), api.ErrForm}, {strings.Repeat("a", 1<<16), api.ErrForm}, {"A", api.ErrForm}, {"0", api.ErrForm}, {"0a", api.ErrForm}, {"aB", api.ErrForm}, {"a_", api.ErrForm}, {"a b", api.ErrForm}, {"a/1", api.ErrForm}, {"a\x00", api.ErrForm}, {"\u00e4", api.ErrForm}, {"a\u00e4", api.ErrForm}, {"a\xff", api.ErrForm}, {"X0", api.ErrForm}, {"[]", api.ErrForm},
	} {
		for k := range 2 {
			holdCheck(t, c.name, changed(base(), func(o *Object) { o.Names.Atoms[k] = c.name }), c.want)
			holdCheck(t, c.name, changed(base(), func(o *Object) { o.Names.Funs[k].Name = c.name }), c.want)
			holdCheck(t, c.name, changed(base(), func(o *Object) { o.Preds[k].Name = c.name }), c.want)
		}
		holdCheck(t, c.name, changed(base(), func(o *Object) { o.Preds[2].Name = c.name }), c.want)
	}
}

// P8.1: arities of Funs are 1 to 8, of Preds 0 to 8.
func TestCheckArities(t *testing.T) {
	for _, n := range []int{math.MinInt, -1 << 32, -256, -255, -8, -1, 0, 1, 2, 7, 8, 9, 10, 16, 255, 256, 257, 264, 65536, 1<<32 + 1, math.MaxInt} {
		fun, pred := api.ErrForm, api.ErrForm
		if n >= 1 && n <= 8 {
			fun = api.OK
		}
		if n >= 0 && n <= 8 {
			pred = api.OK
		}
		holdCheck(t, n, changed(base(), func(o *Object) { o.Names.Funs[1] = heap.Fun{Name: "g", Arity: n} }), fun)
		holdCheck(t, n, changed(base(), func(o *Object) { o.Preds[1] = Pred{"r", n, 3} }), pred)
		holdCheck(t, n, changed(base(), func(o *Object) { o.Preds[2] = Pred{"r", n, None} }), pred)
	}
}

// P8.1: two that are the same, in each table; names alone, or arities alone, may be.
func TestCheckTwice(t *testing.T) {
	for n, turn := range []func(o *Object){
		func(o *Object) { o.Names.Atoms[1] = "a" },
		func(o *Object) { o.Names.Atoms = append(o.Names.Atoms, "c", "b") },
		func(o *Object) { o.Names.Funs[1].Arity = 1 },
		func(o *Object) { o.Names.Funs = append(o.Names.Funs, heap.Fun{Name: "f", Arity: 1}) },
		func(o *Object) { o.Preds[1].Arity = 1 },
		func(o *Object) { o.Preds[2] = Pred{"p", 1, None} },
		func(o *Object) { o.Preds = append(o.Preds, Pred{"q", 0, None}) },
		func(o *Object) { o.Preds = append(o.Preds, Pred{"q", 0, 1}) },
	} {
		holdCheck(t, n, changed(base(), turn), api.ErrTwice)
	}
	full := sized(256, 256, 64, 0)
	holdCheck(t, "atoms", changed(full, func(o *Object) { o.Names.Atoms[255] = "n0" }), api.ErrTwice)
	holdCheck(t, "funs", changed(full, func(o *Object) { o.Names.Funs[255] = o.Names.Funs[0] }), api.ErrTwice)
	holdCheck(t, "preds", changed(full, func(o *Object) { o.Preds[63] = o.Preds[0] }), api.ErrTwice)
	for n, turn := range []func(o *Object){
		func(o *Object) { o.Names.Funs[1].Arity = 3 },
		func(o *Object) { o.Names.Funs[1] = heap.Fun{Name: "a", Arity: 1} },
		func(o *Object) { o.Preds[2] = Pred{"p", 0, None} },
		func(o *Object) { o.Preds[2] = Pred{"f", 1, None} },
		func(o *Object) { o.Preds[2] = Pred{"a", 0, None} },
	} {
		holdCheck(t, n, changed(base(), turn), api.OK)
	}
}

// P8.1: Entries are the places of instructions, or None, and but None no two are the same.
func TestCheckEntries(t *testing.T) {
	for _, n := range []int{math.MinInt, -65536, -65535, -2, -1, 0, 1, 2, 3, 4, 5, 1023, 1024, 65534, 65535, 65536, 65536 + 1, 1<<32 + 1, math.MaxInt} {
		want := api.ErrForm
		if n == 1 || n == 2 || n == 65535 {
			want = api.OK // 0 and 3 are others' Entries
		}
		holdCheck(t, n, changed(base(), func(o *Object) { o.Preds[2].Entry = n }), want)
	}
	holdCheck(t, "moved to the last", changed(base(), func(o *Object) { o.Preds[1].Entry, o.Preds[2].Entry = None, 3 }), api.OK)
	holdCheck(t, "all None", changed(base(), func(o *Object) { o.Preds[0].Entry, o.Preds[1].Entry = None, None }), api.OK)
	holdCheck(t, "the same", changed(base(), func(o *Object) { o.Preds[1].Entry = 0 }), api.ErrForm)
	holdCheck(t, "the same last", changed(base(), func(o *Object) { o.Preds[0].Entry = 3 }), api.ErrForm)
	holdCheck(t, "no code", Object{Preds: []Pred{{"p", 0, 0}}}, api.ErrForm)
	holdCheck(t, "no code, None", Object{Preds: []Pred{{"p", 0, None}}}, api.OK)
	full := sized(0, 0, 64, 1024)
	holdCheck(t, "last of 1024", full, api.OK)
	holdCheck(t, "behind 1024", changed(full, func(o *Object) { o.Preds[0].Entry = 1024 }), api.ErrForm)
	holdCheck(t, "two of 64", changed(full, func(o *Object) { o.Preds[63].Entry = 1023 }), api.ErrForm)
}

// P8.1: Ops that there aren't.
func TestCheckOps(t *testing.T) {
	for _, op := range []int{math.MinInt, -256, -27, -1, 27, 28, 255, 256, 256 + 19, 65535, 1 << 32, 1<<32 + 19, math.MaxInt} {
		for k := range 4 {
			holdCheck(t, op, changed(base(), func(o *Object) { o.Code[k] = code.Make(op) }), api.ErrOp)
			holdCheck(t, op, changed(base(), func(o *Object) { o.Code[k] = code.Make(op, 1, 2, 3, 4) }), api.ErrOp)
		}
	}
}

// P8.1: each operand of each Op, in objects of several sizes.
func TestCheckOperands(t *testing.T) {
	numbers := []int{math.MinInt, -65535, -1, 0, 1, 2, 7, 8, 9, 15, 16, 17, 31, 32, 63, 64, 255, 256, 1023, 1024, 65534, 65535, 65536, 1 << 32, math.MaxInt}
	for _, o := range []Object{sized(0, 0, 0, 1), sized(1, 1, 1, 2), sized(2, 3, 4, 5), sized(16, 17, 18, 19), sized(256, 256, 64, 1024)} {
		at := len(o.Code) - 1
		for op := range 27 {
			for k := range 4 {
				for _, n := range numbers {
					i := code.Instr{Op: op}
					if op == code.UniVoid {
						i.A[0] = 1
					}
					i.A[k] = n
					o.Code[at] = i
					if want := modelInstr(o, i); Check(o) != want {
						t.Errorf("%d: %v: %v; should be %v", len(o.Code), i, Check(o), want)
					}
				}
			}
		}
	}
}

// P8.1: what an operand names must be there: the last one is, the one behind it isn't.
func TestCheckNamed(t *testing.T) {
	for _, many := range []int{1, 2, 3, 63, 64} {
		o := sized(many, many, many, many)
		for _, op := range []int{code.GetCon, code.PutCon, code.UniCon, code.GetStr, code.PutStr, code.Call, code.Execute, code.Try, code.Retry, code.Switch} {
			for n, want := range map[int]api.Errno{0: api.OK, many - 1: api.OK, many: api.ErrOperand} {
				holdCheck(t, []int{many, op, n}, changed(o, func(o *Object) { o.Code[0] = code.Make(op, n) }), want)
			}
		}
	}
	for _, op := range []int{code.GetCon, code.UniCon, code.PutCon, code.GetStr, code.PutStr, code.Call, code.Execute} {
		holdCheck(t, op, changed(sized(0, 0, 0, 1), func(o *Object) { o.Code[0] = code.Make(op) }), api.ErrOperand)
	}
}

// P8.1: Labels are places of instructions; Nowhere may be within a switch alone.
func TestCheckLabels(t *testing.T) {
	for _, n := range []int{-1, 0, 1, 3, 4, 1023, 1024, 65534, 65535, 65536} {
		want := api.ErrOperand
		if n >= 0 && n <= 3 {
			want = api.OK
		}
		for _, op := range []int{code.Try, code.Retry} {
			holdCheck(t, n, changed(base(), func(o *Object) { o.Code[1] = code.Make(op, n) }), want)
		}
		if n == 65535 {
			want = api.OK
		}
		for k := range 4 {
			holdCheck(t, n, changed(base(), func(o *Object) { o.Code[2].A[k] = n }), want)
		}
		holdCheck(t, n, changed(base(), func(o *Object) { o.Code[2] = code.Make(code.Switch, n, n, n, n) }), want)
	}
	for _, op := range []int{code.Call, code.GetCon, code.GetStr, code.UniCon, code.UniVoid, code.Allocate, code.Cut} {
		holdCheck(t, op, changed(base(), func(o *Object) { o.Code[1] = code.Make(op, code.Nowhere) }), api.ErrOperand)
	}
}

// P8.1: of several faults the first of the document's order counts, wherever they lie.
func TestCheckOrder(t *testing.T) {
	faults := []struct {
		want api.Errno
		turn func(o *Object)
	}{
		{api.ErrFull, func(o *Object) { o.Code = append(o.Code, make([]code.Instr, 1025)...) }},
		{api.ErrForm, func(o *Object) { o.Preds[2].Arity = 9 }},
		{api.ErrTwice, func(o *Object) { o.Names.Atoms[1] = o.Names.Atoms[0] }},
		{api.ErrForm, func(o *Object) { o.Preds[0].Entry = 4 }},
		{api.ErrOp, func(o *Object) { o.Code[1].Op = 27 }},
		{api.ErrOperand, func(o *Object) { o.Code[2].A[0] = 4 }},
	}
	for set := 1; set < 1<<len(faults); set++ {
		o := base()
		want := api.OK
		for k := len(faults) - 1; k >= 0; k-- {
			if set>>k&1 == 1 {
				faults[k].turn(&o)
				want = faults[k].want
			}
		}
		holdCheck(t, set, o, want)
	}
	holdCheck(t, "operand ahead of op", changed(base(), func(o *Object) { o.Code[0].A[0], o.Code[1].Op = 4, 27 }), api.ErrOperand)
	holdCheck(t, "both of one", changed(base(), func(o *Object) { o.Code[0] = code.Make(-1, -1, -1, -1, -1) }), api.ErrOp)
	for n, turn := range []func(o *Object){
		func(o *Object) { o.Names.Atoms[0], o.Names.Funs[1] = "A", o.Names.Funs[0] },
		func(o *Object) { o.Names.Atoms[0], o.Names.Atoms[1] = "A", "A" },
		func(o *Object) { o.Names.Atoms[1], o.Names.Funs[0].Arity = "a", 0 },
		func(o *Object) { o.Preds[0], o.Preds[1].Name = o.Preds[1], "" },
	} {
		holdCheck(t, n, changed(base(), turn), api.ErrForm)
	}
	holdCheck(t, "twice, both of one Entry", changed(base(), func(o *Object) { o.Preds[1] = o.Preds[0] }), api.ErrTwice)
}

// turns are ways to make an object another one, mostly a wrong one.
var turns = []func(r *rand.Rand, o *Object){
	func(r *rand.Rand, o *Object) { o.Names.Atoms = append(o.Names.Atoms, nameOf(r.Intn(6))) },
	func(r *rand.Rand, o *Object) { o.Names.Atoms = append(o.Names.Atoms, string(rune(r.Intn(300)))) },
	func(r *rand.Rand, o *Object) {
		o.Names.Funs = append(o.Names.Funs, heap.Fun{Name: nameOf(r.Intn(6)), Arity: r.Intn(10)})
	},
	func(r *rand.Rand, o *Object) {
		o.Preds = append(o.Preds, Pred{nameOf(r.Intn(6)), r.Intn(10), r.Intn(20)})
	},
	func(r *rand.Rand, o *Object) { o.Preds = append(o.Preds, Pred{nameOf(r.Intn(6)), r.Intn(9), None}) },
	func(r *rand.Rand, o *Object) {
		if len(o.Preds) > 0 {
			o.Preds[r.Intn(len(o.Preds))].Entry = r.Intn(20) - 1
		}
	},
	func(r *rand.Rand, o *Object) { o.Code = append(o.Code, code.Make(r.Intn(28), r.Intn(5), r.Intn(3))) },
	func(r *rand.Rand, o *Object) {
		if len(o.Code) > 0 {
			o.Code[r.Intn(len(o.Code))].A[r.Intn(4)] = r.Intn(20) - 1
		}
	},
	func(r *rand.Rand, o *Object) {
		if len(o.Code) > 0 {
			o.Code[r.Intn(len(o.Code))].Op = r.Intn(30) - 1
		}
	},
	func(r *rand.Rand, o *Object) { o.Code = o.Code[:r.Intn(len(o.Code)+1)] },
	func(r *rand.Rand, o *Object) { o.Names.Atoms = o.Names.Atoms[:r.Intn(len(o.Names.Atoms)+1)] },
	func(r *rand.Rand, o *Object) { o.Names.Funs = o.Names.Funs[:r.Intn(len(o.Names.Funs)+1)] },
	func(r *rand.Rand, o *Object) { o.Preds = o.Preds[:r.Intn(len(o.Preds)+1)] },
}

// P8.1: objects by chance, and such of which something was turned.
func TestCheckModel(t *testing.T) {
	r := rand.New(rand.NewSource(8))
	had := map[api.Errno]int{}
	for range 20000 {
		o := some(r)
		if e := Check(o); e != api.OK {
			t.Fatalf("%v: %v", o, e.Word())
		}
		for range 1 + r.Intn(3) {
			turns[r.Intn(len(turns))](r, &o)
		}
		want := modelCheck(o)
		had[want]++
		if e := Check(o); e != want {
			t.Fatalf("%v: %v; should be %v", o, e.Word(), want.Word())
		}
	}
	for _, e := range []api.Errno{api.OK, api.ErrForm, api.ErrTwice, api.ErrOp, api.ErrOperand} {
		if had[e] < 100 {
			t.Error(e.Word(), had[e])
		}
	}
}

// P8.1: Same looks at all, and at the order; nil and empty are one; it asks nothing of what is right.
func TestSame(t *testing.T) {
	if !Same(base(), base()) || !Same(Object{}, Object{}) || !Same(Object{}, Object{Names: heap.Names{Atoms: []string{}, Funs: []heap.Fun{}}, Preds: []Pred{}, Code: []code.Instr{}}) {
		t.Error("the same are others")
	}
	for n, turn := range []func(o *Object){
		func(o *Object) { o.Names.Atoms[1] = "c" },
		func(o *Object) { o.Names.Atoms[0], o.Names.Atoms[1] = "b", "a" },
		func(o *Object) { o.Names.Atoms = o.Names.Atoms[:1] },
		func(o *Object) { o.Names.Atoms = nil },
		func(o *Object) { o.Names.Atoms = append(o.Names.Atoms, "c") },
		func(o *Object) { o.Names.Funs[0].Name = "g" },
		func(o *Object) { o.Names.Funs[1].Arity = 3 },
		func(o *Object) { o.Names.Funs = o.Names.Funs[:1] },
		func(o *Object) { o.Preds[0].Name = "r" },
		func(o *Object) { o.Preds[0].Arity = 0 },
		func(o *Object) { o.Preds[2].Entry = 1 },
		func(o *Object) { o.Preds[0], o.Preds[1] = o.Preds[1], o.Preds[0] },
		func(o *Object) { o.Preds = nil },
		func(o *Object) { o.Code[3].Op = code.Call },
		func(o *Object) { o.Code[2].A[3] = 2 },
		func(o *Object) { o.Code[3].A[3] = 1 },
		func(o *Object) { o.Code = o.Code[:3] },
		func(o *Object) { o.Code = append(o.Code, code.Instr{}) },
	} {
		o := changed(base(), turn)
		if Same(o, base()) || Same(base(), o) {
			t.Error(n)
		}
		if !Same(o, changed(base(), turn)) {
			t.Error(n, "the same are others")
		}
	}
	wrong := Object{Names: heap.Names{Atoms: []string{"A", "A"}}, Preds: []Pred{{"", -1, -1}}, Code: []code.Instr{{Op: 99}}}
	if !Same(wrong, copied(wrong)) || Same(wrong, base()) {
		t.Error("wrong ones")
	}
}

// P8.1: Find goes by name and arity, whatever the Entry.
func TestFind(t *testing.T) {
	o := base()
	for _, c := range []struct {
		name        string
		arity, want int
	}{
		{"p", 1, 0}, {"p", 2, 1}, {"q", 0, 2}, {"p", 0, -1}, {"p", 3, -1}, {"q", 1, -1}, {"a", 0, -1}, {"f", 1, -1}, {"", 0, -1}, {"P", 1, -1}, {"p/1", 1, -1}, {"p ", 1, -1}, {"p", -1, -1}, {"p", 257, -1}, {"p", math.MaxInt, -1}, {"p", math.MinInt, -1},
	} {
		if got := Find(o, c.name, c.arity); got != c.want {
			t.Errorf("%q/%d: %d; should be %d", c.name, c.arity, got, c.want)
		}
	}
	if Find(Object{}, "p", 1) != -1 || Find(Object{}, "", 0) != -1 {
		t.Error("found in nothing")
	}
	full := sized(0, 0, 64, 0)
	for n := range 64 {
		if Find(full, nameOf(n), n%9) != n || Find(full, nameOf(n), (n+1)%9) != -1 {
			t.Error(n)
		}
	}
}
