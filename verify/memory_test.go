package verify

import (
	"math/rand"
	"slices"
	"testing"

	"resolvent/api"
	"resolvent/code"
	"resolvent/heap"
	"resolvent/obj"
)

// roomy is a list with spare room, in which something stands.
func roomy[T any](l []T, spare T) []T {
	return append(slices.Clone(l), spare, spare, spare)[:len(l)]
}

// spare is what stands in a list's spare room.
func spare[T any](l []T) []T { return l[len(l):cap(l)] }

// P11.2: what is handed in isn't changed, its spare room neither, whatever is answered.
func TestNotChanged(t *testing.T) {
	r := rand.New(rand.NewSource(21))
	mark := obj.Object{Names: heap.Names{Atoms: []string{"mark"}, Funs: []heap.Fun{{Name: "mark", Arity: 7}}}, Preds: []obj.Pred{{Name: "mark", Arity: 7, Entry: 7}}, Code: []code.Instr{code.Make(26, 7, 7, 7, 7)}}
	for range 1000 {
		o := someObject(r)
		if r.Intn(2) == 0 {
			o = turned(r, o)
		}
		x := obj.Object{Names: heap.Names{Atoms: roomy(o.Names.Atoms, "mark"), Funs: roomy(o.Names.Funs, mark.Names.Funs[0])}, Preds: roomy(o.Preds, mark.Preds[0]), Code: roomy(o.Code, mark.Code[0])}
		room := obj.Object{Names: heap.Names{Atoms: slices.Clone(spare(x.Names.Atoms)), Funs: slices.Clone(spare(x.Names.Funs))}, Preds: slices.Clone(spare(x.Preds)), Code: slices.Clone(spare(x.Code))}
		Check(x)
		if !obj.Same(x, o) {
			t.Fatal(x, o)
		}
		after := obj.Object{Names: heap.Names{Atoms: spare(x.Names.Atoms), Funs: spare(x.Names.Funs)}, Preds: spare(x.Preds), Code: spare(x.Code)}
		if !obj.Same(after, room) {
			t.Fatal(after, room)
		}
	}
}

// P11.2: an answer stays as it is, whatever comes of what was handed in, and of other answers; and the next answer is the same.
func TestNewMemory(t *testing.T) {
	r := rand.New(rand.NewSource(22))
	for range 300 {
		o := trusted(r)
		first, _, _ := Check(o)
		states, needs := slices.Clone(first.States), slices.Clone(first.Needs)
		second, _, _ := Check(o)
		for n := range second.States {
			second.States[n], second.Needs[n] = State{X: 77, Env: 77, Left: 77, Alt: true}, Need{77, 77, 77}
		}
		_ = append(second.States, State{Env: 77})
		_ = append(second.Needs, Need{77, 77, 77})
		third, _, _ := Check(o)
		for n := range o.Code {
			o.Code[n] = code.Make(opExecute, 0)
		}
		for n := range o.Preds {
			o.Preds[n] = obj.Pred{Name: "other", Arity: 8, Entry: n}
		}
		for n := range o.Names.Funs {
			o.Names.Funs[n] = heap.Fun{Name: "other", Arity: 9}
		}
		if kept := (Report{states, needs}); !sameReport(first, kept) || !sameReport(third, kept) {
			t.Fatal(first, third, kept)
		}
	}
}

// P11.2, and the rules: an answer hangs on what is handed in alone, not on what was asked ahead of it.
func TestSameAnswers(t *testing.T) {
	r := rand.New(rand.NewSource(23))
	type row struct {
		o  obj.Object
		r  Report
		e  api.Errno
		at int
	}
	var l []row
	for range 200 {
		o := someObject(r)
		report, e, at := Check(o)
		l = append(l, row{copied(o), report, e, at})
	}
	slices.Reverse(l)
	for _, c := range l {
		if report, e, at := Check(c.o); e != c.e || at != c.at || !sameReport(report, c.r) {
			t.Fatal(c.o, report, e.Word(), at)
		}
	}
}
