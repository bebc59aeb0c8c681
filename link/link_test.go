package link

import (
	"math/rand"
	"slices"
	"strings"
	"testing"

	"resolvent/api"
	"resolvent/asm"
	"resolvent/code"
	"resolvent/heap"
	"resolvent/obj"
)

// holdWhole holds Objects against what should be, and that with an error there is no object.
func holdWhole(t *testing.T, what any, l []obj.Object, want obj.Object, wantError api.Errno, wantAt int) {
	t.Helper()
	o, e, at := Objects(l...)
	if e != wantError || at != wantAt || !modelSame(o, want) {
		t.Errorf("%v: %v, %v, %v; should be %v, %v, %v", what, o, e.Word(), at, want, wantError.Word(), wantAt)
	}
	if e == api.OK && obj.Check(o) != api.OK {
		t.Errorf("%v: %v: %v", what, o, obj.Check(o).Word())
	}
}

func holdFault(t *testing.T, what any, want api.Errno, at int, l ...obj.Object) {
	t.Helper()
	holdWhole(t, what, l, obj.Object{}, want, at)
}

func holdOK(t *testing.T, what any, l ...obj.Object) {
	t.Helper()
	want, e, at := modelObjects(l)
	if e != api.OK {
		t.Fatal(what, e.Word(), at)
	}
	holdWhole(t, what, l, want, api.OK, -1)
}

func program(t *testing.T, text string) obj.Object {
	t.Helper()
	o, e, at := asm.Program(strings.Split(text, ", ")...)
	if e != api.OK {
		t.Fatal(text, e.Word(), at)
	}
	return o
}

// P10.1: the document's example: one that calls q/0, and one that has it.
func TestExample(t *testing.T) {
	q := obj.Pred{Name: "q", Arity: 0}
	both := obj.Object{Preds: []obj.Pred{{Name: "q", Arity: 0, Entry: 2}}, Code: []code.Instr{{Op: opExecute}, {Op: opProceed}, {Op: opProceed}}}
	holdWhole(t, "both", []obj.Object{calls(q), has(q)}, both, api.OK, -1)
	holdFault(t, "the first alone", api.ErrUnknown, 0, calls(q))
	holdWhole(t, "the second alone", []obj.Object{has(q)}, has(q), api.OK, -1)
}

// P10.1: no object, and empty ones; nil and empty lists are one.
func TestNothing(t *testing.T) {
	holdWhole(t, "none", nil, obj.Object{}, api.OK, -1)
	holdWhole(t, "an empty list", []obj.Object{}, obj.Object{}, api.OK, -1)
	holdWhole(t, "an empty one", []obj.Object{{}}, obj.Object{}, api.OK, -1)
	empty := obj.Object{Names: heap.Names{Atoms: []string{}, Funs: []heap.Fun{}}, Preds: []obj.Pred{}, Code: []code.Instr{}}
	holdWhole(t, "empty lists", []obj.Object{empty, {}, empty}, obj.Object{}, api.OK, -1)
	p := has(predOf(0))
	holdWhole(t, "between empty ones", []obj.Object{{}, p, empty}, p, api.OK, -1)
	holdWhole(t, "many", make([]obj.Object, 100000), obj.Object{}, api.OK, -1)
}

// P10.1: one object with something of everything comes as it is, also where names aren't used, and code has no Entry.
func TestOne(t *testing.T) {
	o := obj.Object{
		Names: heap.Names{Atoms: []string{"b", "a", "p"}, Funs: []heap.Fun{{Name: "f", Arity: 2}, {Name: "f", Arity: 1}, {Name: "a", Arity: 8}}},
		Preds: []obj.Pred{{Name: "p", Arity: 1, Entry: 3}, {Name: "p", Arity: 0, Entry: 1}},
		Code:  []code.Instr{code.Make(20, 3), code.Make(26, 0, 65535, 3, 2), code.Make(3, 2, 15), code.Make(4, 1, 0), code.Make(17, 1), code.Make(9, 8)},
	}
	holdWhole(t, "one", []obj.Object{o}, o, api.OK, -1)
}

// P10.1: a whole that is written out here: names, Funs and Preds that several have, and such that differ by Arity alone; Labels, Nowhere, Entries and None in the second and the third.
func TestWritten(t *testing.T) {
	first := program(t, "pred p/1, getcon a X0, getstr f/1 X1, unicon b, call q/0, execute p/2")
	second := program(t, "proceed, pred q/0, switch @3 - @4 @1023, @3, getcon b X0, @4, getcon c X1, getstr f/2 X0, @1023, execute p/1")
	third := program(t, "try @0, @0, trust, putstr f/2 X0, putstr f/1 X1, putcon c X2, pred p/2, retry @9, @9, switch - - - @0, call q/0")
	want := obj.Object{
		Names: heap.Names{Atoms: []string{"a", "b", "c"}, Funs: []heap.Fun{{Name: "f", Arity: 1}, {Name: "f", Arity: 2}}},
		Preds: []obj.Pred{{Name: "p", Arity: 1, Entry: 0}, {Name: "q", Arity: 0, Entry: 6}, {Name: "p", Arity: 2, Entry: 16}},
		Code: []code.Instr{
			code.Make(3, 0, 0), code.Make(4, 0, 1), code.Make(8, 1), code.Make(17, 1), code.Make(18, 2),
			code.Make(19), code.Make(26, 7, 65535, 8, 10), code.Make(3, 1, 0), code.Make(3, 2, 1), code.Make(4, 1, 0), code.Make(18, 0),
			code.Make(20, 12), code.Make(22), code.Make(13, 1, 0), code.Make(13, 0, 1), code.Make(12, 2, 2), code.Make(21, 17), code.Make(26, 65535, 65535, 65535, 12), code.Make(17, 1),
		},
	}
	holdWhole(t, "three", []obj.Object{first, second, third}, want, api.OK, -1)
	for _, l := range [][]obj.Object{{first, third, second}, {second, first, third}, {second, third, first}, {third, first, second}, {third, second, first}} {
		holdOK(t, "another order", l...)
	}
}

// P10.1: tables go by the objects' tables, where a name is met first, not by the instructions, and an Entry doesn't bring a Pred ahead.
func TestOrderOfTables(t *testing.T) {
	a := obj.Object{Names: heap.Names{Atoms: []string{"c", "a"}, Funs: []heap.Fun{{Name: "g", Arity: 2}, {Name: "g", Arity: 1}}}, Preds: []obj.Pred{predOf(3), predOf(1)}, Code: []code.Instr{code.Make(3, 1, 0), code.Make(4, 1, 0), code.Make(17, 1)}}
	b := obj.Object{Names: heap.Names{Atoms: []string{"b", "a", "d", "c"}, Funs: []heap.Fun{{Name: "g", Arity: 3}, {Name: "g", Arity: 1}}}, Preds: []obj.Pred{predOf(0), predOf(1), predOf(2), predOf(3)}, Code: []code.Instr{code.Make(3, 3, 0), code.Make(4, 0, 0), code.Make(17, 3), code.Make(17, 0)}}
	for k := range b.Preds {
		b.Preds[k].Entry = k
	}
	want := obj.Object{
		Names: heap.Names{Atoms: []string{"c", "a", "b", "d"}, Funs: []heap.Fun{{Name: "g", Arity: 2}, {Name: "g", Arity: 1}, {Name: "g", Arity: 3}}},
		Preds: []obj.Pred{{Name: "n1", Arity: 1, Entry: 6}, {Name: "n0", Arity: 1, Entry: 4}, {Name: "n0", Arity: 0, Entry: 3}, {Name: "n1", Arity: 0, Entry: 5}},
		Code:  []code.Instr{code.Make(3, 1, 0), code.Make(4, 1, 0), code.Make(17, 1), code.Make(3, 0, 0), code.Make(4, 2, 0), code.Make(17, 0), code.Make(17, 2)},
	}
	holdWhole(t, "a, b", []obj.Object{a, b}, want, api.OK, -1)
	holdOK(t, "b, a", b, a)
}

// P10.1: operands that are numbers alone stay as they are, whatever the tables and the code ahead.
func TestOtherOperandsStay(t *testing.T) {
	ahead := obj.Object{Names: heap.Names{Atoms: []string{"z"}, Funs: []heap.Fun{{Name: "z", Arity: 1}}}, Preds: []obj.Pred{{Name: "z", Arity: 0, Entry: 0}}, Code: plain(3)}
	for op, of := range kinds {
		for _, greatest := range []int{0, 1} {
			i, want := code.Instr{Op: op}, code.Instr{Op: op}
			for k, kind := range of {
				i.A[k], want.A[k] = ends[kind][greatest], ends[kind][greatest]
				switch kind {
				case 'A', 'F', 'P':
					want.A[k] = 1
				case 'L':
					want.A[k] = 3
				}
			}
			o := obj.Object{Names: heap.Names{Atoms: []string{"a"}, Funs: []heap.Fun{{Name: "z", Arity: 2}}}, Preds: []obj.Pred{{Name: "z", Arity: 1, Entry: 0}}, Code: []code.Instr{i}}
			if whole, e, _ := Objects(ahead, o); e != api.OK || whole.Code[3] != want {
				t.Error(i, whole, e.Word())
			}
		}
	}
}

// P10.1: the same object twice: of one without Preds both come; of one with an Entry the second one is wrong.
func TestSameTwice(t *testing.T) {
	o := program(t, "getcon a X0, getstr f/2 X0, try @1, @1, switch - @1 - -, proceed")
	want := obj.Object{Names: o.Names, Code: []code.Instr{
		code.Make(3, 0, 0), code.Make(4, 0, 0), code.Make(20, 3), code.Make(26, 65535, 3, 65535, 65535), code.Make(19),
		code.Make(3, 0, 0), code.Make(4, 0, 0), code.Make(20, 8), code.Make(26, 65535, 8, 65535, 65535), code.Make(19),
	}}
	holdWhole(t, "no Preds", []obj.Object{o, o}, want, api.OK, -1)
	p := predOf(1)
	holdFault(t, "an Entry", api.ErrTwice, 1, has(p), has(p))
	holdFault(t, "no Entry", api.ErrUnknown, 0, calls(p), calls(p))
	holdOK(t, "twice called", calls(p), calls(p), has(p))
	holdOK(t, "around", calls(p), has(p), calls(p))
}

// P10.1: a Pred with an Entry in the first and None in the second, the other way round, and in both; the place 0 is an Entry, too.
func TestEntries(t *testing.T) {
	for _, p := range []obj.Pred{predOf(0), predOf(1)} {
		for _, entry := range []int{0, 1} {
			with, without := has(p), calls(p)
			with.Preds[0].Entry = entry
			for at, l := range [][]obj.Object{{with, without}, {without, with}} {
				o, e, n := Objects(l...)
				if e != api.OK || n != -1 || len(o.Preds) != 1 || o.Preds[0].Entry != entry+at {
					t.Error(p, entry, at, o, e.Word(), n)
				}
			}
			holdFault(t, "both", api.ErrTwice, 1, with, with)
			holdFault(t, "behind one without", api.ErrTwice, 2, without, with, with)
			holdFault(t, "one without between", api.ErrTwice, 3, with, without, without, with)
			holdFault(t, "three", api.ErrTwice, 1, with, with, with)
		}
	}
	holdOK(t, "another Arity", has(predOf(0)), has(predOf(1)))
	holdOK(t, "a name and a Fun as a Pred", has(predOf(1)), atomsFrom(0, 2), funsFrom(0, 2))
}

// P10.1: a Pred of which no object has an Entry, at the first place of the whole or at a later one, met in the first object or in a later one.
func TestUnknown(t *testing.T) {
	p, q := predOf(0), predOf(1)
	both := func(o obj.Object, p obj.Pred, ahead bool) obj.Object {
		p.Entry = elsewhere
		if ahead {
			o.Preds = slices.Insert(slices.Clone(o.Preds), 0, p)
		} else {
			o.Preds = append(slices.Clone(o.Preds), p)
		}
		return o
	}
	holdFault(t, "the first, in the first", api.ErrUnknown, 0, calls(p), has(q))
	holdFault(t, "the first, with a later one", api.ErrUnknown, 0, both(has(q), p, true))
	holdFault(t, "a later one, in the first", api.ErrUnknown, 0, both(has(q), p, false), has(predOf(2)))
	holdFault(t, "a later one, in the second", api.ErrUnknown, 1, has(q), calls(p))
	holdFault(t, "a later one, in the second ahead of another", api.ErrUnknown, 1, has(q), both(has(predOf(2)), p, true), calls(p))
	holdFault(t, "a later one, in the third", api.ErrUnknown, 2, has(q), calls(q), both(calls(q), p, false))
	holdFault(t, "empty ones ahead", api.ErrUnknown, 2, obj.Object{}, atomsFrom(0, 9), calls(p))
	holdFault(t, "two, the first counts", api.ErrUnknown, 1, has(predOf(4)), calls(q), calls(p), calls(q))
	holdFault(t, "the first has one, the second not", api.ErrUnknown, 1, calls(q), both(calls(p), q, false), has(q))
	holdFault(t, "another Arity alone", api.ErrUnknown, 0, calls(p), has(q))
	holdFault(t, "another name alone", api.ErrUnknown, 0, calls(p), has(predOf(2)))
	holdFault(t, "a name alone", api.ErrUnknown, 0, calls(p), atomsFrom(0, 3), funsFrom(0, 3))
}

// P10.1: tables and code that have just as many as there may be, made one, and one more; what several have counts once.
func TestFull(t *testing.T) {
	for n, c := range []struct {
		least int // so many of the first one
		part  func(n, many int) obj.Object
		most  int
	}{
		{0, atomsFrom, mostAtoms}, {0, funsFrom, mostFuns}, {0, predsFrom, mostPreds}, {0, func(_, many int) obj.Object { return obj.Object{Code: plain(many)} }, mostInstrs},
	} {
		for _, split := range []int{1, c.most / 2, c.most - 1, c.most} {
			first := c.part(0, split)
			holdOK(t, n, first, c.part(split, c.most-split))
			holdFault(t, n, api.ErrFull, -1, first, c.part(split, c.most-split), c.part(c.most, 1))
			holdFault(t, n, api.ErrFull, -1, first, c.part(split, c.most+1-split))
		}
		holdFault(t, n, api.ErrFull, 0, c.part(0, c.most+1))
		holdFault(t, n, api.ErrFull, 1, c.part(0, 1), c.part(1, c.most+1))
	}
	all := obj.Object{Names: heap.Names{Atoms: atomsFrom(0, mostAtoms).Names.Atoms, Funs: funsFrom(0, mostFuns).Names.Funs}, Preds: predsFrom(0, mostPreds).Preds, Code: plain(mostPreds)}
	for k := range all.Preds {
		all.Preds[k].Entry = elsewhere
	}
	rest := predsFrom(0, mostPreds)
	holdOK(t, "all of it several times", all, all, rest, all)
	rest.Code = append(rest.Code, plain(mostInstrs-4*mostPreds)...)
	holdOK(t, "as many as may be of all", all, all, rest, all)
	holdFault(t, "one more instruction", api.ErrFull, -1, all, all, rest, all, obj.Object{Code: plain(1)})
	holdFault(t, "one more name", api.ErrFull, -1, all, all, rest, all, atomsFrom(mostAtoms, 1))
	holdFault(t, "one more Fun", api.ErrFull, -1, funsFrom(mostFuns, 1), all, all, rest, all)
}

// P10.1: the greatest Labels, and the last numbers of names, that are laid from the first on behind others.
func TestGreatest(t *testing.T) {
	atoms, funs := atomsFrom(0, 255), funsFrom(0, 255)
	preds := predsFrom(0, 63)
	jump := obj.Object{
		Names: heap.Names{Atoms: []string{"last"}, Funs: []heap.Fun{{Name: "last", Arity: 8}}},
		Preds: []obj.Pred{{Name: "last", Arity: 8, Entry: 2}},
		Code:  []code.Instr{code.Make(20, 5), code.Make(26, 65535, 5, 4, 65535), code.Make(3, 0, 0), code.Make(4, 0, 0), code.Make(17, 0), code.Make(18, 0)},
	}
	o, e, at := Objects(atoms, funs, preds, obj.Object{Code: plain(1024 - 63 - 6)}, jump)
	want := []code.Instr{code.Make(20, 1023), code.Make(26, 65535, 1023, 1022, 65535), code.Make(3, 255, 0), code.Make(4, 255, 0), code.Make(17, 63), code.Make(18, 63)}
	if e != api.OK || at != -1 || !slices.Equal(o.Code[1018:], want) || o.Preds[63].Entry != 1020 || o.Names.Atoms[255] != "last" || o.Names.Funs[255].Name != "last" {
		t.Error(o, e.Word(), at)
	}
	if b, e := obj.Encode(o); e != api.OK || len(b) == 0 {
		t.Error(e.Word())
	}
}

// P10.1: behind very much code there are Entries yet, also where one would be laid in the place None.
func TestFarEntries(t *testing.T) {
	p := predOf(0)
	far := obj.Object{Preds: []obj.Pred{{Name: p.Name, Arity: p.Arity, Entry: 1023}}, Code: plain(1024)}
	var l []obj.Object
	for range 63 {
		l = append(l, obj.Object{Code: plain(1024)})
	}
	holdFault(t, "in place 65535", api.ErrFull, -1, append(slices.Clone(l), far)...)
	holdFault(t, "there twice", api.ErrTwice, 64, append(slices.Clone(l), far, has(p))...)
	holdFault(t, "twice, there the second time", api.ErrTwice, 64, append(append([]obj.Object{}, l[:62]...), has(p), obj.Object{Code: plain(1022)}, far)...)
	holdFault(t, "called from behind", api.ErrFull, -1, append(slices.Clone(l), far, calls(p))...)
	holdFault(t, "another unknown", api.ErrUnknown, 64, append(slices.Clone(l), far, calls(predOf(1)))...)
}

// P10.1: very many objects, and Preds, are gone through soon, and the tables' end is told behind all.
func TestMany(t *testing.T) {
	var l []obj.Object
	for n := range 3000 {
		l = append(l, predsFrom(64*n, 64))
	}
	holdFault(t, "full", api.ErrFull, -1, l...)
	holdFault(t, "twice", api.ErrTwice, 3000, append(l, has(predOf(191999)))...)
	holdFault(t, "unknown", api.ErrUnknown, 3000, append(l, calls(predOf(192000)))...)
	// The same lists again and again: the whole's code would be very much greater than they are.
	o := obj.Object{Names: atomsFrom(0, 256).Names, Code: plain(1024)}
	holdFault(t, "much code", api.ErrFull, -1, slices.Repeat([]obj.Object{o}, 3000)...)
}

// P10.1: what obj.Check has wrong with one of them, in each place, also where it is right behind others.
func TestCheckOfEach(t *testing.T) {
	p := predOf(0)
	for n, c := range []struct {
		o    obj.Object
		want api.Errno
	}{
		{atomsFrom(0, 257), api.ErrFull}, {obj.Object{Code: plain(1025)}, api.ErrFull},
		{obj.Object{Names: heap.Names{Atoms: []string{"A"}}}, api.ErrForm}, {obj.Object{Names: heap.Names{Funs: []heap.Fun{{Name: "f", Arity: 0}}}}, api.ErrForm}, {obj.Object{Preds: []obj.Pred{{Name: "p", Arity: 9, Entry: elsewhere}}}, api.ErrForm},
		{obj.Object{Names: heap.Names{Atoms: []string{"a", "a"}}}, api.ErrTwice}, {obj.Object{Preds: []obj.Pred{p, p}}, api.ErrTwice},
		{obj.Object{Preds: []obj.Pred{{Name: "p", Arity: 1, Entry: 0}}}, api.ErrForm}, {obj.Object{Preds: []obj.Pred{{Name: "p", Arity: 1, Entry: -1}}, Code: plain(1)}, api.ErrForm},
		{obj.Object{Code: []code.Instr{{Op: 27}}}, api.ErrOp}, {obj.Object{Code: []code.Instr{{Op: -1}}}, api.ErrOp},
		{obj.Object{Code: []code.Instr{code.Make(3, 0, 0)}}, api.ErrOperand}, {obj.Object{Code: []code.Instr{code.Make(17, 0)}}, api.ErrOperand}, {obj.Object{Code: []code.Instr{code.Make(20, 1)}}, api.ErrOperand}, {obj.Object{Code: []code.Instr{code.Make(20, 65535)}}, api.ErrOperand}, {obj.Object{Code: []code.Instr{code.Make(19, 1)}}, api.ErrOperand},
	} {
		right := obj.Object{Names: heap.Names{Atoms: []string{"b"}, Funs: []heap.Fun{{Name: "f", Arity: 1}}}, Preds: []obj.Pred{{Name: "q", Arity: 1, Entry: 1}}, Code: plain(2)}
		holdFault(t, n, c.want, 0, c.o)
		holdFault(t, n, c.want, 1, right, c.o)
		holdFault(t, n, c.want, 1, right, c.o, right)
		holdFault(t, n, c.want, 3, obj.Object{}, right, right, c.o, obj.Object{Code: []code.Instr{{Op: 99}}})
		holdFault(t, n, c.want, 0, c.o, obj.Object{Code: []code.Instr{{Op: 99}}})
	}
}

// P10.1: of several faults the first of the document's order counts, wherever they lie.
func TestOrderOfFaults(t *testing.T) {
	p, q := predOf(0), predOf(1)
	wrong := obj.Object{Code: []code.Instr{{Op: 27}}}
	// Each fault's objects; the place of the one that is wrong among them.
	faults := []struct {
		want api.Errno
		l    []obj.Object
		at   int
	}{
		{api.ErrOp, []obj.Object{wrong}, 0},
		{api.ErrTwice, []obj.Object{has(p), has(p)}, 1},
		{api.ErrUnknown, []obj.Object{calls(q)}, 0},
		{api.ErrFull, []obj.Object{atomsFrom(0, 200), atomsFrom(200, 57)}, -1},
		{api.OK, []obj.Object{has(predOf(2)), {}}, -1},
	}
	r := rand.New(rand.NewSource(101))
	for range 2000 {
		var l []obj.Object
		first, at := len(faults), -1
		for _, k := range r.Perm(len(faults))[:1+r.Intn(len(faults))] {
			if f := faults[k]; k < first {
				first, at = k, f.at
				if at >= 0 {
					at += len(l)
				}
			}
			l = append(l, faults[k].l...)
		}
		if faults[first].want == api.OK {
			holdOK(t, "right", l...)
		} else {
			holdFault(t, first, faults[first].want, at, l...)
		}
	}
	holdFault(t, "wrong behind twice", api.ErrOp, 2, has(p), has(p), wrong)
	holdFault(t, "twice behind unknown", api.ErrTwice, 2, calls(q), has(p), has(p))
	holdFault(t, "unknown behind full", api.ErrUnknown, 2, atomsFrom(0, 256), atomsFrom(256, 1), calls(q))
	holdFault(t, "full of its own behind twice", api.ErrFull, 2, has(p), has(p), obj.Object{Code: plain(1025)})
	holdFault(t, "both in one", api.ErrTwice, 1, has(p), obj.Object{Preds: []obj.Pred{q, {Name: p.Name, Arity: p.Arity, Entry: 0}}, Code: plain(1)})
}

// turns are ways to make objects others, mostly such that can't be made one.
var turns = []func(r *rand.Rand, l []obj.Object){
	func(r *rand.Rand, l []obj.Object) { begin(&l[r.Intn(len(l))], predOf(r.Intn(9))) },
	func(r *rand.Rand, l []obj.Object) {
		o := &l[r.Intn(len(l))]
		o.Preds = append(o.Preds, predOf(r.Intn(9)))
	},
	func(r *rand.Rand, l []obj.Object) { l[r.Intn(len(l))] = copied(l[r.Intn(len(l))]) },
	func(r *rand.Rand, l []obj.Object) { l[r.Intn(len(l))] = atomsFrom(4, 100+r.Intn(160)) },
	func(r *rand.Rand, l []obj.Object) { l[r.Intn(len(l))] = funsFrom(4, 100+r.Intn(160)) },
	func(r *rand.Rand, l []obj.Object) { l[r.Intn(len(l))] = predsFrom(r.Intn(9), 30+r.Intn(36)) },
	func(r *rand.Rand, l []obj.Object) {
		o := &l[r.Intn(len(l))]
		o.Code = append(o.Code, plain(500+r.Intn(530))...)
	},
	func(r *rand.Rand, l []obj.Object) {
		o := &l[r.Intn(len(l))]
		if len(o.Code) > 0 {
			o.Code[r.Intn(len(o.Code))].A[r.Intn(4)] = r.Intn(5) - 1
		}
	},
	func(r *rand.Rand, l []obj.Object) {
		o := &l[r.Intn(len(l))]
		o.Names.Atoms = append(o.Names.Atoms, nameOf(r.Intn(9)))
	},
	func(r *rand.Rand, l []obj.Object) {
		o := &l[r.Intn(len(l))]
		if len(o.Preds) > 0 {
			o.Preds[r.Intn(len(o.Preds))].Entry = elsewhere
		}
	},
}

// P10.1: objects by chance, and such of which something was turned: Objects answers what the model does.
func TestModel(t *testing.T) {
	r := rand.New(rand.NewSource(102))
	had := map[api.Errno]int{}
	for range 20000 {
		l := several(r)
		if len(l) > 0 {
			for range r.Intn(4) {
				turns[r.Intn(len(turns))](r, l)
			}
		}
		want, wantError, wantAt := modelObjects(l)
		had[wantError]++
		holdWhole(t, l, l, want, wantError, wantAt)
		if t.Failed() {
			t.FailNow()
		}
	}
	for e, least := range map[api.Errno]int{api.OK: 5000, api.ErrTwice: 1000, api.ErrUnknown: 500, api.ErrFull: 200, api.ErrOperand: 100} {
		if had[e] < least {
			t.Error(e.Word(), had[e])
		}
	}
}

// P10.1: each operand names what it named, and each Label and Entry is so far behind the object's first instruction as it was.
func TestNamesWhatItNamed(t *testing.T) {
	r := rand.New(rand.NewSource(103))
	for range 3000 {
		l := several(r)
		whole, e, at := Objects(l...)
		if e != api.OK || at != -1 {
			t.Fatal(l, e.Word(), at)
		}
		base := 0
		for n, o := range l {
			for k, i := range o.Code {
				if got, want := told(whole, base, whole.Code[base+k]), told(o, 0, i); got != want {
					t.Fatalf("%d, %d: %v; should be %v", n, k, got, want)
				}
			}
			for _, p := range o.Preds {
				if got := obj.Find(whole, p.Name, p.Arity); p.Entry != elsewhere && whole.Preds[got].Entry != base+p.Entry {
					t.Fatal(n, p, whole.Preds[got])
				}
			}
			base += len(o.Code)
		}
		if base != len(whole.Code) {
			t.Fatal(base, len(whole.Code))
		}
	}
}

// grouped answers the objects with some of them that stand side by side made one first, where that can be, and of each of l in which of the answer it is.
func grouped(r *rand.Rand, l []obj.Object) (groups []obj.Object, of []int) {
	for from := 0; from < len(l); {
		to := from + 1 + r.Intn(len(l)-from)
		o, e, _ := Objects(l[from:to]...)
		if e != api.OK {
			o, to = l[from], from+1
		}
		for range to - from {
			of = append(of, len(groups))
		}
		groups = append(groups, o)
		from = to
	}
	return groups, of
}

// P10.2: two first made one, and then the third, and the third first with the second, are all three at once.
func TestThree(t *testing.T) {
	a := program(t, "pred p/1, try @5, getcon a X0, execute p/2, @5, trust, getcon b X0, proceed, pred p/2, switch @9 - - @9, @9, execute p/1")
	b := program(t, "pred q/1, getstr f/2 X0, unicon b, unicon c, execute p/1, pred r/0, proceed")
	c := program(t, "pred s/0, getlevel Y3, putcon c X0, putstr f/1 X1, call q/1, try @1, @1, execute r/0")
	all, e, _ := Objects(a, b, c)
	ab, e1, at1 := Objects(a, b)
	left, e2, at2 := Objects(ab, c)
	if e != api.OK || e1 != api.OK || at1 != -1 || e2 != api.OK || at2 != -1 || !modelSame(left, all) {
		t.Error(left, all, e.Word(), e1.Word(), e2.Word())
	}
	holdFault(t, "the other two can't be made one first", api.ErrUnknown, 0, b, c)
	free := program(t, "pred u/0, getcon d X0, try @0, @0, execute u/0")
	again := program(t, "pred w/0, getcon a X0, retry @0, @0, execute u/0")
	last, e3, _ := Objects(free, again)
	right, e4, at4 := Objects(a, last)
	all, _, _ = Objects(a, free, again)
	if e3 != api.OK || e4 != api.OK || at4 != -1 || !modelSame(right, all) {
		t.Error(right, all, e3.Word(), e4.Word())
	}
	// What is made one alone, or beside nothing, is as it was.
	for _, l := range [][]obj.Object{{all}, {all, {}}, {{}, all}, {{}, all, {}}} {
		holdWhole(t, "alone", l, all, api.OK, -1)
	}
}

// P10.2: objects by chance, some of them made one first: the same comes, or the same fault, in the one that has the one that has it.
func TestGroups(t *testing.T) {
	r := rand.New(rand.NewSource(104))
	had := map[api.Errno]int{}
	for range 20000 {
		l := several(r)
		for range r.Intn(3) {
			if len(l) > 0 {
				turns[r.Intn(len(turns))](r, l)
			}
		}
		want, wantError, wantAt := Objects(l...)
		groups, of := grouped(r, l)
		if len(groups) < len(l) {
			had[wantError]++
		}
		if wantAt >= 0 {
			wantAt = of[wantAt]
		}
		o, e, at := Objects(groups...)
		if !modelSame(o, want) || e != wantError || at != wantAt {
			t.Fatalf("%v: %v, %v, %v; should be %v, %v, %v", groups, o, e.Word(), at, want, wantError.Word(), wantAt)
		}
	}
	for e, least := range map[api.Errno]int{api.OK: 2000, api.ErrTwice: 100, api.ErrUnknown: 50, api.ErrFull: 20} {
		if had[e] < least {
			t.Error(e.Word(), had[e])
		}
	}
}

// P5: objects of clauses (their code as the chapter of comp has it), made one in whatever order: each predicate's code, from its Entry up to the next one, is what it was, and its Labels are of it.
func TestClauses(t *testing.T) {
	app := program(t, "pred app/3, try @0, allocate 1, getcon nil X0, getvar Y0 X1, getval Y0 X2, deallocate, proceed, @0, trust, allocate 4, getlis X0, univar Y0, univar Y1, getvar Y2 X1, getlis X2, unival Y0, univar Y3, putval Y1 X0, putval Y2 X1, putval Y3 X2, deallocate, execute app/3")
	rev := program(t, "pred rev/2, try @0, getcon nil X0, getcon nil X1, proceed, @0, trust, allocate 4, getlis X0, univar Y0, univar Y1, getvar Y2 X1, putval Y1 X0, putvar Y3 X1, call rev/2, putval Y3 X0, putlis X1, unival Y0, unicon nil, putval Y2 X2, deallocate, execute app/3")
	once := program(t, "pred once/1, allocate 2, getlevel Y1, getvar Y0 X0, putval Y0 X0, call even/1, cut Y1, deallocate, proceed, pred none/0, fail")
	even := program(t, "pred even/1, try @0, getcon zero X0, proceed, @0, trust, allocate 1, getstr s/1 X0, univar Y0, putval Y0 X0, deallocate, execute odd/1, pred odd/1, allocate 1, getstr s/1 X0, univar Y0, putval Y0 X0, deallocate, execute even/1")
	r := rand.New(rand.NewSource(105))
	parts := []obj.Object{app, rev, once, even}
	for range 200 {
		var l []obj.Object
		for _, k := range r.Perm(len(parts)) {
			l = append(l, parts[k])
		}
		whole, e, at := Objects(l...)
		if e != api.OK {
			t.Fatal(e.Word(), at)
		}
		for _, o := range l {
			for k := range o.Preds {
				if o.Preds[k].Entry == elsewhere {
					continue
				}
				got := codeOf(whole, obj.Find(whole, o.Preds[k].Name, o.Preds[k].Arity))
				if want := codeOf(o, k); !slices.Equal(got, want) {
					t.Errorf("%v: %v; should be %v", o.Preds[k], got, want)
				}
			}
		}
	}
}

// codeOf tells a predicate's instructions.
func codeOf(o obj.Object, n int) []string {
	from, to := o.Preds[n].Entry, len(o.Code)
	for _, p := range o.Preds {
		if p.Entry > from && p.Entry < to {
			to = p.Entry
		}
	}
	var l []string
	for _, i := range o.Code[from:to] {
		l = append(l, told(o, from, i))
	}
	return l
}

// spare is a row in memory that has room behind it, which holds something.
func spare[T any](l []T, filler T) []T {
	return append(slices.Clone(l), filler, filler, filler)[:len(l)]
}

// stays tells whether a row's spare room holds what it held.
func stays[T comparable](l []T, filler T) bool {
	return !slices.ContainsFunc(l[len(l):len(l)+3], func(x T) bool { return x != filler })
}

// P10.3: what is handed in isn't changed, its spare room neither, whether it can be made one or not.
func TestObjectsStay(t *testing.T) {
	r := rand.New(rand.NewSource(106))
	name, fun, pred, instr := "spare", heap.Fun{Name: "spare", Arity: 3}, obj.Pred{Name: "spare", Arity: 3, Entry: 3}, code.Make(25, 3)
	for range 1000 {
		l := several(r)
		if len(l) > 0 && r.Intn(2) == 0 {
			turns[r.Intn(len(turns))](r, l)
		}
		was := allCopied(l)
		for n, o := range l {
			l[n] = obj.Object{Names: heap.Names{Atoms: spare(o.Names.Atoms, name), Funs: spare(o.Names.Funs, fun)}, Preds: spare(o.Preds, pred), Code: spare(o.Code, instr)}
		}
		many := len(l)
		l = append(l, atomsFrom(0, 1), atomsFrom(0, 1))
		Objects(l[:many]...)
		if !slices.EqualFunc(l[:many], was, modelSame) || !modelSame(l[many], atomsFrom(0, 1)) || !modelSame(l[many+1], atomsFrom(0, 1)) {
			t.Fatal(l, was)
		}
		for _, o := range l[:many] {
			if !stays(o.Names.Atoms, name) || !stays(o.Names.Funs, fun) || !stays(o.Preds, pred) || !stays(o.Code, instr) {
				t.Fatal(o)
			}
		}
	}
}

// spoil writes into all of an object, its spare room too.
func spoil(o obj.Object) {
	atoms, funs, preds, instrs := o.Names.Atoms, o.Names.Funs, o.Preds, o.Code
	for k := range atoms[:cap(atoms)] {
		atoms[:cap(atoms)][k] = "spoiled"
	}
	for k := range funs[:cap(funs)] {
		funs[:cap(funs)][k] = heap.Fun{Name: "spoiled", Arity: 7}
	}
	for k := range preds[:cap(preds)] {
		preds[:cap(preds)][k] = obj.Pred{Name: "spoiled", Arity: 7, Entry: 7}
	}
	for k := range instrs[:cap(instrs)] {
		instrs[:cap(instrs)][k] = code.Make(25, 7)
	}
}

// P10.3: answers are new memory, also of one object alone: who changes one changes no other, nor what was handed in; and who changes that changes no answer.
func TestAnswersAreNew(t *testing.T) {
	r := rand.New(rand.NewSource(107))
	for range 1000 {
		l := several(r)
		if len(l) > 1 && r.Intn(3) == 0 {
			if _, e, _ := Objects(l[0]); e == api.OK {
				l = l[:1]
			}
		}
		was := allCopied(l)
		want, _, _ := modelObjects(was)
		first, e, _ := Objects(l...)
		second, _, _ := Objects(l...)
		if e != api.OK {
			t.Fatal(e.Word())
		}
		spoil(first)
		if !slices.EqualFunc(l, was, modelSame) || !modelSame(second, want) {
			t.Fatal("an answer is shared")
		}
		for n := range l {
			spoil(l[n])
			l[n] = obj.Object{}
		}
		if !modelSame(second, want) {
			t.Fatal("what is handed in is kept")
		}
		if third, _, _ := Objects(was...); !modelSame(third, want) {
			t.Fatal("a call hangs on those ahead of it")
		}
	}
}
