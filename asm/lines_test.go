package asm

import (
	"fmt"
	"math/rand"
	"slices"
	"strings"
	"testing"

	"resolvent/api"
	"resolvent/code"
	"resolvent/heap"
	"resolvent/obj"
)

// mixed is an object with something of each kind, which Program would make otherwise: what it has in its tables isn't in the order in which its code has it, and some of it nowhere.
func mixed() obj.Object {
	return obj.Object{
		Names: heap.Names{Atoms: []string{"never", "b", "a"}, Funs: []heap.Fun{{Name: "g", Arity: 8}, {Name: "f", Arity: 1}}},
		Preds: []obj.Pred{{Name: "last", Arity: 8, Entry: 5}, {Name: "none", Arity: 0, Entry: elsewhere}, {Name: "p", Arity: 2, Entry: 0}},
		Code: []code.Instr{
			code.Make(code.Switch, 1, noPlace, 5, 1), code.Make(code.Try, 3), code.Make(code.GetCon, 2, 15), code.Make(code.Trust),
			code.Make(code.PutStr, 1, 0), code.Make(code.Execute, 0), code.Make(code.Call, 1),
		},
	}
}

// P9.1: lines of an object, written out.
func TestLines(t *testing.T) {
	want := []string{"pred p/2", "switch @1 - @5 @1", "@1", "try @3", "getcon a X15", "@3", "trust", "putstr f/1 X0", "pred last/8", "@5", "execute last/8", "call none/0"}
	if l := Lines(mixed()); !slices.Equal(l, want) {
		t.Errorf("%q", l)
	}
	if l := Lines(obj.Object{}); len(l) != 0 {
		t.Errorf("%q", l)
	}
	if l := Lines(obj.Object{Names: heap.Names{Atoms: []string{"a"}}, Preds: []obj.Pred{{Name: "p", Arity: 0, Entry: elsewhere}}}); len(l) != 0 {
		t.Errorf("%q", l)
	}
}

// P9.1: an instruction of each Op, with its operands least and greatest.
func TestLinesOfOps(t *testing.T) {
	o := obj.Object{Preds: []obj.Pred{{Name: "q", Arity: 0, Entry: elsewhere}}}
	for n := range 256 {
		o.Names.Atoms = append(o.Names.Atoms, fmt.Sprintf("a%d", n))
		o.Names.Funs = append(o.Names.Funs, heap.Fun{Name: fmt.Sprintf("f%d", n), Arity: 1 + n%8})
	}
	for n := range 63 {
		o.Preds = append(o.Preds, obj.Pred{Name: fmt.Sprintf("p%d", n), Arity: n % 9, Entry: elsewhere})
	}
	for range 1024 {
		o.Code = append(o.Code, code.Make(code.Proceed))
	}
	ends := map[rune][2]int{'R': {0, 31}, 'X': {0, 15}, 'A': {0, 255}, 'F': {0, 255}, 'C': {1, 8}, 'S': {0, 16}, 'P': {0, 63}, 'L': {0, 1023}, 'Y': {0, 15}}
	for op := range 27 {
		for end := range 2 {
			i := code.Instr{Op: op}
			for k, kind := range kinds[op] {
				i.A[k] = ends[kind][end]
			}
			o.Code[2*op+end+7] = i
		}
	}
	l := Lines(o)
	if !slices.Equal(l, modelLines(o)) {
		t.Errorf("%q", l)
	}
	for _, line := range []string{"getcon a0 X0", "getcon a255 X15", "putstr f255/8 X15", "call q/0", "execute p62/8", "try @1023", "@1023", "@0", "switch @0 @0 @0 @0", "cut Y15", "univar Y15", "allocate 16", "univoid 8"} {
		if !slices.Contains(l, line) {
			t.Errorf("%q isn't there", line)
		}
	}
}

// P9.1: of an object with which something is wrong there are no lines.
func TestLinesOfWrong(t *testing.T) {
	for n, turn := range []func(o *obj.Object){
		func(o *obj.Object) { o.Names.Atoms[0] = "A" },
		func(o *obj.Object) { o.Names.Atoms[0] = "a" },
		func(o *obj.Object) { o.Names.Funs[0].Arity = 0 },
		func(o *obj.Object) { o.Preds[1].Arity = 9 },
		func(o *obj.Object) { o.Preds[0].Entry = 7 },
		func(o *obj.Object) { o.Preds[0].Entry = 0 },
		func(o *obj.Object) { o.Preds[0].Entry = -1 },
		func(o *obj.Object) { o.Code[6].Op = 27 },
		func(o *obj.Object) { o.Code[6].Op = -1 },
		func(o *obj.Object) { o.Code[6].A[0] = 3 },
		func(o *obj.Object) { o.Code[2].A[0] = -1 },
		func(o *obj.Object) { o.Code[1].A[0] = 7 },
		func(o *obj.Object) { o.Code[1].A[0] = noPlace },
		func(o *obj.Object) { o.Code[0].A[2] = 1 << 40 },
		func(o *obj.Object) { o.Code = append(o.Code, make([]code.Instr, 1018)...) },
		func(o *obj.Object) { o.Names.Atoms = nil },
		func(o *obj.Object) { o.Preds = nil },
	} {
		o := mixed()
		turn(&o)
		if l := Lines(o); obj.Check(o) == api.OK || len(l) != 0 {
			t.Errorf("%d: %q", n, l)
		}
	}
}

// back holds that what Lines makes of lines' object is made to that object again, and to those lines.
func back(t *testing.T, lines []string) {
	t.Helper()
	o, e, _ := Program(lines...)
	if e != api.OK {
		return
	}
	l := Lines(o)
	again, e, n := Program(l...)
	if e != api.OK || n != -1 || !obj.Same(again, o) {
		t.Errorf("%q: %q, %v, %d", lines, l, e.Word(), n)
	}
	if !slices.Equal(l, modelLines(o)) || !slices.Equal(Lines(again), l) {
		t.Errorf("%q: %q; should be %q", lines, l, modelLines(o))
	}
}

// P9.2: lines by chance, with the tables full, and with all labels.
func TestBack(t *testing.T) {
	r := rand.New(rand.NewSource(92))
	for range 10000 {
		l := some(r)
		back(t, l)
		back(t, turn(r, l))
		if t.Failed() {
			return
		}
	}
	back(t, nil)
	back(t, []string{"@4"})
	var l []string
	for n := range 64 {
		l = append(l, fmt.Sprintf("call q%d/%d", (n+7)%64, n%2), fmt.Sprintf("pred p%d/%d", n, n%9), fmt.Sprintf("execute p%d/%d", n, n%9))
	}
	back(t, l[:96])
	l = nil
	for n := range 256 {
		l = append(l, fmt.Sprintf("@%d", 1023-n), fmt.Sprintf("unicon a%d", n), fmt.Sprintf("getstr b%d/8 X1", n), fmt.Sprintf("switch @%d - @%d @1023", 1023-(n+5)%256, 1023-n), fmt.Sprintf("getcon a%d X0", 255-n))
	}
	if _, e, _ := Program(l...); e != api.OK {
		t.Fatal(e.Word())
	}
	back(t, l)
}

// P9.2: Lines of an object is lines of which its code is made, though its tables come otherwise.
func TestOthersBack(t *testing.T) {
	o, e, _ := Program(Lines(mixed())...)
	want := obj.Object{
		Names: heap.Names{Atoms: []string{"a"}, Funs: []heap.Fun{{Name: "f", Arity: 1}}},
		Preds: []obj.Pred{{Name: "p", Arity: 2, Entry: 0}, {Name: "last", Arity: 8, Entry: 5}, {Name: "none", Arity: 0, Entry: elsewhere}},
		Code: []code.Instr{
			code.Make(code.Switch, 1, noPlace, 5, 1), code.Make(code.Try, 3), code.Make(code.GetCon, 0, 15), code.Make(code.Trust),
			code.Make(code.PutStr, 0, 0), code.Make(code.Execute, 1), code.Make(code.Call, 2),
		},
	}
	if e != api.OK || !obj.Same(o, want) {
		t.Error(o, e.Word())
	}
}

// P9.1, P4: an object of lines comes back from its bytes.
func TestBytesOfLines(t *testing.T) {
	r := rand.New(rand.NewSource(93))
	for range 500 {
		o, _, _ := Program(some(r)...)
		b, e := obj.Encode(o)
		if e != api.OK {
			t.Fatal(e.Word())
		}
		if x, e := obj.Decode(b); e != api.OK || !obj.Same(x, o) {
			t.Fatal(e.Word())
		}
	}
}

// P9.1: the object that is handed in isn't changed, nor its spare room, and answers are new memory.
func TestObjectStays(t *testing.T) {
	o := mixed()
	o.Code = append(o.Code, code.Make(code.Cut, 9))[:7]
	o.Names.Atoms = append(o.Names.Atoms, "spare")[:3]
	first, second := Lines(o), Lines(o)
	for k := range first {
		first[k] = strings.Repeat("x", k)
	}
	if !obj.Same(o, mixed()) || o.Code[:8][7] != code.Make(code.Cut, 9) || o.Names.Atoms[:4][3] != "spare" {
		t.Error(o)
	}
	if !slices.Equal(second, Lines(mixed())) {
		t.Error(second)
	}
}
