package heap

import (
	"fmt"
	"math"
	"math/rand"
	"slices"
	"strings"
	"testing"

	"resolvent/api"
	"resolvent/cell"
	"resolvent/term"
)

// most is MaxCells as the document has it, so that a change of the limit shows.
const most = 65536

var wrongCells = []cell.Cell{5, 6, 7, 1 << 43, 1<<43 | cell.Con, 1 << 63, math.MaxUint64}

// fresh is an empty Heap of some room.
func fresh(t *testing.T, room int) *Heap {
	t.Helper()
	h, e := New(room)
	if h == nil || e != api.OK {
		t.Fatal(room, e)
	}
	return h
}

// of is a Heap that has some cells, and names a, b, f/1, g/2.
func of(t *testing.T, cells ...cell.Cell) *Heap {
	t.Helper()
	h, e := With(most, Names{[]string{"a", "b"}, []Fun{{"f", 1}, {"g", 2}}})
	if e != api.OK {
		t.Fatal(e)
	}
	for _, c := range cells {
		if !h.Push(c) {
			t.Fatal(c)
		}
	}
	return h
}

func ref(n int) cell.Cell { return cell.Make(cell.Ref, n) }
func str(n int) cell.Cell { return cell.Make(cell.Str, n) }
func con(n int) cell.Cell { return cell.Make(cell.Con, n) }
func lis(n int) cell.Cell { return cell.Make(cell.Lis, n) }
func fun(n int) cell.Cell { return cell.Make(cell.Fun, n) }

func parse(t *testing.T, s string) term.Term {
	t.Helper()
	x, e := term.Parse(s)
	if e != api.OK {
		t.Fatal(s, e)
	}
	return x
}

func build(t *testing.T, h *Heap, s string) cell.Cell {
	t.Helper()
	c, ok := h.Build(parse(t, s))
	if !ok {
		t.Fatal("no room", s)
	}
	return c
}

// texts tells cells: "ref 0, fun 0".
func texts(cells []cell.Cell) string {
	var l []string
	for _, c := range cells {
		l = append(l, c.Text())
	}
	return strings.Join(l, ", ")
}

// random is the text of a term of few variables and names, so that many can nearly be made one.
func random(r *rand.Rand, depth, vars int) string {
	pick := r.Intn(6)
	if depth == 0 {
		pick /= 2
	}
	part := func() string { return random(r, depth-1, vars) }
	switch pick {
	case 0, 1:
		return fmt.Sprint("X", r.Intn(vars))
	case 2:
		return string("ab"[r.Intn(2)])
	case 3:
		return "[" + part() + "|" + part() + "]"
	case 4:
		return "f(" + part() + ")"
	}
	return string("ffg"[r.Intn(3)]) + "(" + part() + "," + part() + ")"
}

// P5.1: the document's example.
func TestExample(t *testing.T) {
	h := fresh(t, 3)
	if c := build(t, h, "f(X0)"); c.Text() != "str 1" || texts(h.Cells()) != "ref 0, fun 0, ref 0" {
		t.Error(c.Text(), texts(h.Cells()))
	}
}

// P5.1: New and With answer for each room that may be, and for no other.
func TestRooms(t *testing.T) {
	n := Names{[]string{"a"}, []Fun{{"f", 1}}}
	for _, room := range []int{0, 1, 2, 1000, most - 1, most} {
		h, e := New(room)
		w, we := With(room, n)
		if h == nil || e != api.OK || w == nil || we != api.OK {
			t.Fatal(room, e, we)
		}
		if len(h.Cells()) != 0 || len(h.Trail()) != 0 || h.Marks() != 0 || len(h.Names().Atoms) != 0 || len(h.Names().Funs) != 0 {
			t.Error(room, h)
		}
		if m := w.Names(); len(w.Cells()) != 0 || !slices.Equal(m.Atoms, n.Atoms) || !slices.Equal(m.Funs, n.Funs) {
			t.Error(room, m)
		}
	}
	for _, room := range []int{-1, -2, -most, most + 1, most + 2, 1 << 32, math.MinInt, math.MaxInt} {
		h, e := New(room)
		w, we := With(room, n)
		if h != nil || e != api.ErrArg || w != nil || we != api.ErrArg {
			t.Error(room, e, we)
		}
	}
}

// P5.1: as many cells come as there is room for, and not one more.
func TestRoomIsFilled(t *testing.T) {
	for _, room := range []int{0, 1, 2, 100, most} {
		h := fresh(t, room)
		for i := range room {
			if !h.Push(con(i)) {
				t.Fatal(room, i)
			}
		}
		if h.Push(con(0)) || h.Push(con(1)) || len(h.Cells()) != room {
			t.Error(room, len(h.Cells()))
		}
		for i, c := range h.Cells() {
			if c != con(i) {
				t.Fatal(room, i, c)
			}
		}
		if _, ok := h.Build(parse(t, "X0")); ok {
			t.Error(room)
		}
	}
}

// P5.1: Push takes whatever cell layer 1 has, wherever it leads, and no other.
func TestPush(t *testing.T) {
	h := fresh(t, 100)
	want := []cell.Cell{ref(0), ref(7), ref(1<<40 - 1), str(3), con(9), lis(1), fun(1<<40 - 1), 0}
	for _, c := range want {
		if !h.Push(c) {
			t.Error(c.Text())
		}
	}
	for _, c := range wrongCells {
		if h.Push(c) {
			t.Error(c)
		}
	}
	if !slices.Equal(h.Cells(), want) {
		t.Error(texts(h.Cells()))
	}
}

// P5.1: Deref goes on up to what isn't a Ref, or a variable's.
func TestDeref(t *testing.T) {
	h := of(t, ref(0), ref(0), ref(1), con(0), ref(3), ref(4), str(7), fun(0), ref(99), ref(8), lis(1<<40-1), ref(10), ref(13), ref(12), ref(14), ref(14), ref(17), ref(18), ref(16))
	for _, c := range []struct{ from, want cell.Cell }{
		{ref(0), ref(0)}, {ref(1), ref(0)}, {ref(2), ref(0)}, {ref(3), con(0)}, {ref(5), con(0)}, {ref(6), str(7)}, {ref(7), fun(0)}, {ref(11), lis(1<<40 - 1)}, {ref(15), ref(14)},
		{con(5), con(5)}, {str(0), str(0)}, {lis(3), lis(3)}, {fun(2), fun(2)}, {str(1<<40 - 1), str(1<<40 - 1)},
	} {
		if d, ok := h.Deref(c.from); !ok || d != c.want {
			t.Error(c.from.Text(), d.Text(), ok)
		}
	}
	no := []cell.Cell{ref(19), ref(20), ref(1<<40 - 1), ref(8), ref(9)}
	no = append(no, ref(12), ref(13), ref(16), ref(17), ref(18)) // rings
	for _, c := range append(no, wrongCells...) {
		if d, ok := h.Deref(c); ok || d != 0 {
			t.Error(c, d, ok)
		}
	}
	empty := fresh(t, 0)
	if d, ok := empty.Deref(con(3)); !ok || d != con(3) {
		t.Error(d, ok)
	}
	if d, ok := empty.Deref(ref(0)); ok || d != 0 {
		t.Error(d, ok)
	}
}

// P5.1: the longest way of Refs that there may be comes to its end.
func TestDerefLong(t *testing.T) {
	for end, text := range map[cell.Cell]string{ref(0): "X0", con(1): "b"} {
		h := of(t, end)
		for i := 1; i < most; i++ {
			h.Push(ref(i - 1))
		}
		if d, ok := h.Deref(ref(most - 1)); !ok || d != end {
			t.Error(d.Text(), ok)
		}
		if x, e := h.Read(ref(most - 1)); e != api.OK || term.Text(x) != text {
			t.Error(term.Text(x), e)
		}
	}
}

// P5.1: a nil Heap answers nothing, false, ErrArg.
func TestNil(t *testing.T) {
	var h *Heap
	h.Mark()
	if h.Cells() != nil || h.Trail() != nil || h.Marks() != 0 || h.Names().Atoms != nil || h.Names().Funs != nil {
		t.Error("nil has something")
	}
	if h.Push(0) || h.Bind(0, 0) || h.Undo() || h.Drop() {
		t.Error("nil does something")
	}
	for _, x := range []term.Term{{}, {Kind: term.Con, Name: "a"}, {Kind: 9}} {
		if c, ok := h.Build(x); c != 0 || ok {
			t.Error(c, ok)
		}
	}
	for _, c := range []cell.Cell{0, con(0), str(0), math.MaxUint64} {
		if d, ok := h.Deref(c); d != 0 || ok {
			t.Error(d, ok)
		}
		if x, e := h.Read(c); e != api.ErrArg || x.Kind != 0 || x.N != 0 || x.Name != "" || x.Args != nil {
			t.Error(x, e)
		}
		if one, e := h.Unify(c, c); one || e != api.ErrArg {
			t.Error(one, e)
		}
	}
}

// P1 of DOC.md: a Heap that wasn't made by New doesn't panic either.
func TestZero(t *testing.T) {
	for _, s := range []string{"X0", "a", "f(a,X1)", "[a|b]"} {
		var h Heap
		h.Build(parse(t, s))
		h.Mark()
		h.Push(0)
		h.Bind(0, 0)
		h.Undo()
		h.Build(parse(t, s))
		h.Drop()
		h.Unify(0, con(0))
		h.Unify(con(0), con(0))
		h.Read(0)
		h.Deref(0)
		if len(h.Cells()) != 0 || len(h.Trail()) != 0 {
			t.Error(s)
		}
	}
}

// P1 of DOC.md: whatever cells there are, and whatever names, all calls end.
func TestAnyCellsEnd(t *testing.T) {
	arities := []int{0, 1, 2, 8, 9, 65536, math.MaxInt, -1, math.MinInt}
	for seed := range 4000 {
		r := rand.New(rand.NewSource(int64(seed)))
		n := Names{Atoms: []string{"a", "", "a", "Q"}}
		for _, arity := range arities {
			n.Funs = append(n.Funs, Fun{"f", arity})
		}
		h, _ := With(30, n)
		any := func() cell.Cell {
			if r.Intn(20) == 0 {
				return cell.Cell(r.Uint64())
			}
			return cell.Make(r.Intn(5), r.Intn(12))
		}
		for range 10 {
			h.Push(any())
		}
		for range 20 {
			switch r.Intn(6) {
			case 0:
				h.Mark()
			case 1:
				h.Undo()
			case 2:
				h.Bind(r.Intn(12), any())
			case 3:
				h.Unify(any(), any())
			case 4:
				if x, e := h.Read(any()); e != api.OK && (x.Kind != 0 || x.N != 0 || x.Name != "" || x.Args != nil) {
					t.Error(x, e)
				}
			case 5:
				h.Build(parse(t, random(r, 2, 3)))
			}
		}
	}
}

// P5.5: what is answered may be changed, and no Heap is another for it.
func TestAnswersAreNew(t *testing.T) {
	h := of(t)
	h.Push(ref(0))
	h.Mark()
	c := build(t, h, "g(f(X0),[a|X1])")
	h.Unify(ref(0), con(1))
	was := texts(h.Cells())
	cells, trail, n := h.Cells(), h.Trail(), h.Names()
	clear(cells)
	trail[0] = 77
	clear(n.Atoms)
	clear(n.Funs)
	_, _, _, _ = append(cells, 1), append(trail, 1), append(n.Atoms, "q"), append(n.Funs, Fun{"q", 1})
	x, e := h.Read(c)
	x.Args[0] = term.Term{}
	x.Args[1].Args[0].Name = "q"
	if e != api.OK || texts(h.Cells()) != was || !slices.Equal(h.Trail(), []int{0}) || !slices.Equal(h.Names().Atoms, []string{"a", "b"}) || !slices.Equal(h.Names().Funs, []Fun{{"f", 1}, {"g", 2}}) {
		t.Error(e, texts(h.Cells()), h.Trail(), h.Names())
	}
	if x, e := h.Read(c); e != api.OK || term.Text(x) != "g(f(X1),[a|X4])" {
		t.Error(term.Text(x), e)
	}
}

// P5.5: an answer's parts share nothing, even where the cells do.
func TestPartsAreNew(t *testing.T) {
	h := of(t, con(0), con(1), lis(0), lis(0))
	x, e := h.Read(lis(2))
	if e != api.OK || term.Text(x) != "[[a|b]|[a|b]]" {
		t.Fatal(term.Text(x), e)
	}
	x.Args[0].Args[0].Name = "q"
	_ = append(x.Args[0].Args[:1], term.Term{N: 5})
	if term.Text(x) != "[[q|X5]|[a|b]]" {
		t.Error(term.Text(x))
	}
}

// P5.5 and rule 4: names that are handed in aren't kept or changed, their spare room neither.
func TestNamesAreCopied(t *testing.T) {
	atoms, funs := []string{"a", "spare"}, []Fun{{"f", 1}, {"spare", 1}}
	h, _ := With(20, Names{atoms[:1], funs[:1]})
	build(t, h, "g(b,f(c))")
	if !slices.Equal(atoms, []string{"a", "spare"}) || !slices.Equal(funs, []Fun{{"f", 1}, {"spare", 1}}) {
		t.Error(atoms, funs)
	}
	clear(atoms)
	clear(funs)
	if n := h.Names(); !slices.Equal(n.Atoms, []string{"a", "b", "c"}) || !slices.Equal(n.Funs, []Fun{{"f", 1}, {"g", 2}}) {
		t.Error(n)
	}
	n := h.Names()
	two, _ := With(20, n)
	build(t, two, "h(d)")
	build(t, h, "k(e)")
	if n := h.Names(); !slices.Equal(n.Atoms, []string{"a", "b", "c", "e"}) || n.Funs[2] != (Fun{"k", 1}) {
		t.Error(n)
	}
}
