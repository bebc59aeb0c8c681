package heap

import (
	"math"
	"slices"
	"testing"

	"resolvent/api"
	"resolvent/term"
)

// P5.1: Bind binds variables alone, to whatever cell layer 1 has.
func TestBind(t *testing.T) {
	h := of(t, ref(0), ref(0), con(0), ref(3), fun(0), ref(5), ref(9), ref(7), lis(8))
	for _, at := range []int{1, 2, 4, 6, 8, 9, 10, -1, math.MinInt, math.MaxInt, 1 << 40} {
		if h.Bind(at, con(1)) {
			t.Error(at)
		}
	}
	for _, c := range wrongCells {
		if h.Bind(0, c) {
			t.Error(c)
		}
	}
	was := "ref 0, ref 0, con 0, ref 3, fun 0, ref 5, ref 9, ref 7, lis 8"
	if texts(h.Cells()) != was {
		t.Error(texts(h.Cells()))
	}
	if !h.Bind(3, ref(1)) || !h.Bind(0, con(7)) || !h.Bind(5, fun(3)) || !h.Bind(7, ref(1<<40-1)) || h.Bind(0, con(1)) || h.Bind(7, con(1)) {
		t.Error(texts(h.Cells()))
	}
	if texts(h.Cells()) != "con 7, ref 0, con 0, ref 1, fun 0, fun 3, ref 9, ref 1099511627775, lis 8" || len(h.Trail()) != 0 {
		t.Error(texts(h.Cells()), h.Trail())
	}
}

// P5.1: what is bound comes to the trail if there is a mark, and its place was there when the last one was made.
func TestTrail(t *testing.T) {
	h := fresh(t, 100)
	for i := range 5 {
		h.Push(ref(i))
	}
	h.Bind(0, con(0))
	h.Mark()
	h.Push(ref(5))
	h.Bind(1, con(1))
	h.Bind(5, con(5))
	h.Unify(ref(4), ref(2))
	h.Unify(ref(2), ref(4)) // nothing is bound any more
	if !slices.Equal(h.Trail(), []int{1, 4}) {
		t.Error(h.Trail())
	}
	h.Push(ref(6))
	h.Mark()
	h.Bind(6, con(6))
	h.Push(ref(7))
	h.Unify(ref(3), ref(7))
	h.Unify(ref(3), con(3))
	if !slices.Equal(h.Trail(), []int{1, 4, 6, 3}) || h.Marks() != 2 {
		t.Error(h.Trail(), h.Marks())
	}
	h.Drop()
	h.Push(ref(8))
	h.Bind(8, con(8))
	h.Bind(2, con(2))
	if !slices.Equal(h.Trail(), []int{1, 4, 6, 3, 2}) || h.Marks() != 1 {
		t.Error(h.Trail(), h.Marks())
	}
	h.Drop()
	h.Push(ref(9))
	h.Bind(9, con(9))
	if !slices.Equal(h.Trail(), []int{1, 4, 6, 3, 2}) || h.Marks() != 0 || h.Undo() || h.Drop() {
		t.Error(h.Trail(), h.Marks())
	}
}

// P5.1: a variable that is bound to itself is bound, and may be again.
func TestBindToItself(t *testing.T) {
	h := of(t, ref(0), ref(1))
	h.Mark()
	if !h.Bind(0, ref(0)) || !h.Bind(0, ref(0)) || texts(h.Cells()) != "ref 0, ref 1" || !slices.Equal(h.Trail(), []int{0, 0}) {
		t.Error(texts(h.Cells()), h.Trail())
	}
	if !h.Undo() || len(h.Trail()) != 0 || texts(h.Cells()) != "ref 0, ref 1" {
		t.Error(texts(h.Cells()), h.Trail())
	}
}

// P5.4: marks behind marks: each Undo goes back to the last one there is, as often as it is asked.
func TestMarksBehindMarks(t *testing.T) {
	h := fresh(t, 100)
	a := build(t, h, "f(X0,X1)")
	h.Mark()
	first := texts(h.Cells())
	b := build(t, h, "f(a,X2)")
	h.Mark()
	second := texts(h.Cells())
	for range 3 {
		if one, _ := h.Unify(a, b); !one || !slices.Equal(h.Trail(), []int{0, 5}) {
			t.Error(h.Trail())
		}
		build(t, h, "[X3|X2]")
		if !h.Undo() || texts(h.Cells()) != second || len(h.Trail()) != 0 || h.Marks() != 2 {
			t.Error(texts(h.Cells()), h.Trail(), h.Marks())
		}
	}
	h.Unify(a, b)
	h.Mark()
	third := texts(h.Cells())
	h.Unify(ref(1), ref(0))
	h.Unify(ref(1), build(t, h, "b"))
	if !h.Undo() || texts(h.Cells()) != third || !slices.Equal(h.Trail(), []int{0, 5}) {
		t.Error(texts(h.Cells()), h.Trail())
	}
	h.Drop()
	if !h.Undo() || texts(h.Cells()) != second || len(h.Trail()) != 0 {
		t.Error(texts(h.Cells()), h.Trail())
	}
	// What was bound between dropped marks is undone by the mark ahead of them.
	h.Unify(a, b)
	h.Drop()
	if h.Marks() != 1 || len(h.Trail()) != 2 || !h.Undo() || texts(h.Cells()) != first || len(h.Trail()) != 0 {
		t.Error(texts(h.Cells()), h.Trail())
	}
	if !h.Drop() || h.Undo() || h.Drop() || texts(h.Cells()) != first {
		t.Error(texts(h.Cells()))
	}
}

// P5.4: two marks in one place are two.
func TestMarksInOnePlace(t *testing.T) {
	h := of(t, ref(0))
	h.Mark()
	h.Mark()
	h.Bind(0, con(0))
	h.Push(con(1))
	if h.Marks() != 2 || !h.Undo() || !h.Drop() || h.Marks() != 1 || !h.Undo() || !h.Drop() || h.Marks() != 0 || h.Drop() {
		t.Error(h.Marks())
	}
	if texts(h.Cells()) != "ref 0" {
		t.Error(texts(h.Cells()))
	}
}

// P5.1, P5.4: numbers of variables whose places are gone have none any more, the others keep theirs; Names stay.
func TestUndoPlaces(t *testing.T) {
	h := fresh(t, 100)
	build(t, h, "f(X7,X8)")
	h.Mark()
	build(t, h, "g(X9,c,X8)")
	if c := build(t, h, "X9"); c != ref(5) {
		t.Error(c.Text())
	}
	h.Undo()
	for _, c := range []struct {
		n    int
		want string
	}{{8, "ref 1"}, {7, "ref 0"}, {3, "ref 5"}, {9, "ref 6"}} {
		if x, ok := h.Build(term.Term{N: c.n}); !ok || x.Text() != c.want {
			t.Error(c.n, x.Text(), ok)
		}
	}
	if n := h.Names(); !slices.Equal(n.Atoms, []string{"c"}) || !slices.Equal(n.Funs, []Fun{{"f", 2}, {"g", 3}}) {
		t.Error(n)
	}
	// A place in which another variable stands by now isn't the number's.
	h.Undo()
	h.Push(ref(5))
	if c := build(t, h, "X3"); c != ref(6) {
		t.Error(c.Text())
	}
}

// P5.4: behind Undo there is as much room as there was.
func TestUndoRoom(t *testing.T) {
	h := fresh(t, 5)
	build(t, h, "f(X0)")
	h.Mark()
	for range 3 {
		if _, ok := h.Build(parse(t, "[X0|X0]")); !ok || h.Push(0) || !h.Undo() {
			t.Error(texts(h.Cells()))
		}
	}
}

// P5.4: also what Unify bound ahead of false, or of ErrFull, is undone.
func TestUndoFailed(t *testing.T) {
	h := fresh(t, 100)
	a, b := build(t, h, "f(X0,X1,a)"), build(t, h, "f(g(X1),X0,b)")
	was := texts(h.Cells())
	h.Mark()
	for _, p := range []string{"f(X2,X0,c)", "f(X0,X1,X0)"} {
		if one, e := h.Unify(a, b); one || e != api.OK && e != api.ErrFull || len(h.Trail()) == 0 {
			t.Error(one, e)
		}
		h.Unify(b, build(t, h, p))
		if !h.Undo() || texts(h.Cells()) != was || len(h.Trail()) != 0 {
			t.Error(texts(h.Cells()), h.Trail())
		}
	}
}

// P5.1: there may be any number of marks.
func TestManyMarks(t *testing.T) {
	h := fresh(t, most)
	for i := range 40000 {
		h.Push(ref(i))
		h.Mark()
		h.Bind(i, con(i))
	}
	if h.Marks() != 40000 || len(h.Trail()) != 40000 {
		t.Error(h.Marks(), len(h.Trail()))
	}
	for i := 39999; i >= 0; i-- {
		if !h.Undo() || h.cells.Top() != i+1 || len(h.trail) != i || !h.Drop() {
			t.Fatal(i)
		}
		if c, _ := h.cells.Get(i); c != ref(i) {
			t.Fatal(i, c.Text())
		}
	}
}
