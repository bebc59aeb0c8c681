package heap

import (
	"fmt"
	"testing"

	"resolvent/api"
	"resolvent/cell"
	"resolvent/term"
)

func noTerm(x term.Term) bool {
	return x.Kind == 0 && x.N == 0 && x.Name == "" && x.Args == nil
}

// P5.1: a term comes of its cells, by whatever Refs; a variable's number is its place.
func TestRead(t *testing.T) {
	h := of(t, ref(0), ref(0), ref(1), con(0), ref(3), fun(0), ref(2), fun(1), ref(4), str(5), ref(10), lis(8), ref(12))
	for _, c := range []struct {
		of   cell.Cell
		want string
	}{
		{ref(0), "X0"}, {ref(1), "X0"}, {ref(2), "X0"}, {con(1), "b"}, {ref(4), "a"}, {str(5), "f(X0)"}, {str(7), "g(a,f(X0))"}, {ref(9), "f(X0)"},
		{lis(0), "[X0|X0]"}, {lis(2), "[X0|a]"}, {lis(11), "[[a|f(X0)]|X12]"}, {ref(12), "X12"}, {lis(9), "[f(X0)|X10]"},
	} {
		if x, e := h.Read(c.of); e != api.OK || term.Text(x) != c.want {
			t.Error(c.of.Text(), term.Text(x), e)
		}
	}
}

// P5.1: what is Read is Right but for what Names are, and has no other fields than its kind.
func TestReadIsRight(t *testing.T) {
	h := fresh(t, 1000)
	for _, s := range []string{"X5", "a", "f(a,b,c,d,e,f,g,X0)", "[f(a)|[X1|X5]]"} {
		if x, e := h.Read(build(t, h, s)); e != api.OK || !term.Right(x) {
			t.Error(s, x, e)
		}
	}
}

// P5.1: terms within themselves, by one step or several, at their tops or below.
func TestReadCycle(t *testing.T) {
	h := of(t, fun(0), str(0), fun(0), str(4), fun(1), con(0), ref(7), str(2), con(0), lis(8), lis(10), con(1), fun(1), con(0), lis(8), con(0), con(1))
	for _, c := range []cell.Cell{str(0), ref(1), str(2), str(4), ref(7), lis(8), ref(9), lis(10), str(12), lis(13), lis(6)} {
		if x, e := h.Read(c); e != api.ErrCycle || !noTerm(x) {
			t.Error(c.Text(), term.Text(x), e)
		}
	}
	// A part that is there twice isn't within itself.
	h = of(t, con(0), con(1), lis(0), lis(0), fun(1), lis(2), lis(2))
	if x, e := h.Read(str(4)); e != api.OK || term.Text(x) != "g([[a|b]|[a|b]],[[a|b]|[a|b]])" {
		t.Error(term.Text(x), e)
	}
}

// P5.1: cycles as Unify makes them.
func TestReadCycleMade(t *testing.T) {
	for _, s := range [][2]string{{"X0", "f(X0)"}, {"X0", "[a|X0]"}, {"g(X0,X1)", "g(f(X1),f(X0))"}, {"g(X0,X1)", "g(X1,[X0|a])"}} {
		h := fresh(t, 100)
		a, b := build(t, h, s[0]), build(t, h, s[1])
		if one, e := h.Unify(a, b); !one || e != api.OK {
			t.Error(s, one, e)
		}
		for _, c := range []cell.Cell{a, b} {
			if x, e := h.Read(c); e != api.ErrCycle || !noTerm(x) {
				t.Error(s, term.Text(x), e)
			}
		}
	}
}

// row is a list of so many names a, which ends with b: 2n+1 parts.
func row(t *testing.T, h *Heap, n int) cell.Cell {
	t.Helper()
	c := con(1)
	for range n {
		at := h.cells.Top()
		if !h.Push(con(0)) || !h.Push(c) {
			t.Fatal("no room")
		}
		c = lis(at)
	}
	return c
}

// P5.1: 10000 parts are read, and not one more.
func TestReadParts(t *testing.T) {
	h := of(t)
	odd := row(t, h, 4999) // 9999 parts
	at := h.cells.Top()
	h.Push(fun(0))
	h.Push(odd)
	even := str(at) // 10000 parts
	h.Push(fun(0))
	h.Push(even)
	more := str(at + 2) // 10001 parts
	for c, size := range map[cell.Cell]int{odd: 9999, even: 10000} {
		if x, e := h.Read(c); e != api.OK || term.Size(x) != size {
			t.Error(size, e, term.Size(x))
		}
	}
	for _, c := range []cell.Cell{more, row(t, h, 5000), row(t, h, 20000)} {
		if x, e := h.Read(c); e != api.ErrFull || !noTerm(x) {
			t.Error(c.Text(), e)
		}
	}
	// Refs are no parts.
	for range 3 {
		at := h.cells.Top()
		h.Push(even)
		even = ref(at)
	}
	if x, e := h.Read(even); e != api.OK || term.Size(x) != 10000 {
		t.Error(e)
	}
}

// P5.1: parts count as often as they are there, also where they are more than any memory holds.
func TestReadShared(t *testing.T) {
	h := of(t, con(0), con(0))
	c, parts := lis(0), 3
	for {
		x, e := h.Read(c)
		if parts <= 10000 && (e != api.OK || term.Size(x) != parts) || parts > 10000 && (e != api.ErrFull || !noTerm(x)) {
			t.Fatal(parts, e)
		}
		if parts > 1<<40 {
			break
		}
		at := h.cells.Top()
		h.Push(c)
		h.Push(c)
		c, parts = lis(at), 2*parts+1
	}
	for h.cells.Top() < most {
		at := h.cells.Top()
		h.Push(c)
		h.Push(c)
		c = lis(at)
	}
	if x, e := h.Read(c); e != api.ErrFull || !noTerm(x) {
		t.Error(e)
	}
}

// P5.1: a variable's place is up to 999, wherever in the term it is.
func TestReadPlaces(t *testing.T) {
	h := of(t)
	for i := range 1003 {
		h.Push(ref(i))
	}
	for _, at := range []int{0, 998, 999} {
		if x, e := h.Read(ref(at)); e != api.OK || term.Text(x) != fmt.Sprint("X", at) {
			t.Error(at, term.Text(x), e)
		}
	}
	h.Push(ref(1000))
	h.Push(ref(5))
	for _, c := range []cell.Cell{ref(1000), ref(1001), lis(999), lis(1000), lis(1003)} {
		if x, e := h.Read(c); e != api.ErrFull || !noTerm(x) {
			t.Error(c.Text(), term.Text(x), e)
		}
	}
	if x, e := h.Read(lis(998)); e != api.OK || term.Text(x) != "[X998|X999]" {
		t.Error(term.Text(x), e)
	}
	// Places above 999 that are bound, or hold structures, are none of a variable.
	h.Bind(1001, con(1))
	h.Push(fun(0))
	h.Push(ref(1001))
	if x, e := h.Read(str(1005)); e != api.OK || term.Text(x) != "f(b)" {
		t.Error(term.Text(x), e)
	}
	h.Bind(1002, ref(1000))
	if x, e := h.Read(ref(1002)); e != api.ErrFull || !noTerm(x) {
		t.Error(term.Text(x), e)
	}
}

// P5.1, rule 1: of two errors ErrCycle is answered, wherever they stand.
func TestReadCycleFirst(t *testing.T) {
	h := of(t)
	for i := range 1001 {
		h.Push(ref(i))
	}
	ring := h.cells.Top()
	h.Push(fun(0))
	h.Push(str(ring))
	for _, other := range []cell.Cell{ref(1000), row(t, h, 6000)} {
		at := h.cells.Top()
		for _, c := range []cell.Cell{fun(1), other, str(ring), fun(1), str(ring), other} {
			h.Push(c)
		}
		for _, c := range []cell.Cell{str(at), str(at + 3)} {
			if x, e := h.Read(c); e != api.ErrCycle || !noTerm(x) {
				t.Error(other.Text(), e)
			}
		}
		if _, e := h.Read(other); e != api.ErrFull {
			t.Error(other.Text(), e)
		}
	}
}

// P5.1: of wrong cells nothing is told but an end, and no panic; this heap tells ErrArg.
func TestReadWrong(t *testing.T) {
	h := of(t, str(1), con(0), fun(9), con(0), fun(1), con(0), con(2), lis(7))
	wrong := append([]cell.Cell{ref(8), ref(1<<40 - 1), str(1), str(2), str(4), str(9), str(1<<40 - 1), con(2), con(1<<40 - 1), fun(0), lis(1), lis(6), lis(7), lis(8), lis(9), lis(1<<40 - 1), ref(0), lis(0)}, wrongCells...)
	for _, c := range wrong {
		if x, e := h.Read(c); e != api.ErrArg || !noTerm(x) {
			t.Error(c.Text(), x, e)
		}
	}
}

// P5.1: a Str means something only where a Fun stands in its place.
func TestReadNoFun(t *testing.T) {
	h := of(t, con(0), con(1), ref(0), lis(0), str(0))
	for at := range 5 {
		if x, e := h.Read(str(at)); e != api.ErrArg || !noTerm(x) {
			t.Error(at, x, e)
		}
	}
}

// P1 of DOC.md: the deepest cells that there may be are gone through to their end.
func TestReadDeepest(t *testing.T) {
	h := of(t)
	for i := range most - 2 {
		h.Push(lis(i + 1))
	}
	h.Push(con(0))
	h.Push(con(0))
	if x, e := h.Read(lis(0)); e != api.ErrFull || !noTerm(x) {
		t.Error(e)
	}
	if one, e := h.Unify(lis(0), lis(1)); one || e != api.ErrFull {
		t.Error(one, e)
	}
	ring := of(t)
	for i := range most {
		ring.Push(ref((i + 1) % most))
	}
	if x, e := ring.Read(ref(0)); e == api.OK {
		t.Error(x, e)
	}
	if c, ok := ring.Deref(ref(5)); ok {
		t.Error(c)
	}
	if one, _ := ring.Unify(ref(5), con(0)); one {
		t.Error(one)
	}
}
