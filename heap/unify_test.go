package heap

import (
	"math/rand"
	"slices"
	"testing"

	"resolvent/api"
	"resolvent/cell"
	"resolvent/mgu"
	"resolvent/term"
)

// P5.1: each rule by itself: what comes out, and what both terms, or else a third one, are read as behind it. In the third's numbers are places.
func TestUnifyCases(t *testing.T) {
	for _, c := range []struct {
		a, b string
		one  bool
		all  string // which term is read behind it
		read string
	}{
		{"a", "a", true, "a", "a"}, {"a", "b", false, "a", "a"},
		{"X0", "X0", true, "X0", "X0"}, {"X0", "a", true, "X0", "a"}, {"a", "X0", true, "X0", "a"}, {"X0", "f(a)", true, "X0", "f(a)"}, {"[a|b]", "X0", true, "X0", "[a|b]"},
		{"f(X0,b)", "f(a,X1)", true, "[X0|X1]", "[a|b]"},
		{"f(a)", "f(a)", true, "a", "a"}, {"[a|b]", "[a|b]", true, "a", "a"},
		// Kinds, names, numbers of terms.
		{"a", "f(a)", false, "a", "a"}, {"f(a)", "a", false, "a", "a"}, {"f", "f(a)", false, "a", "a"}, {"a", "[a|a]", false, "a", "a"}, {"[a|a]", "a", false, "a", "a"}, {"f(a,a)", "[a|a]", false, "a", "a"}, {"[a|a]", "f(a,a)", false, "a", "a"},
		{"f(a)", "f(a,a)", false, "a", "a"}, {"f(a,a)", "f(a)", false, "a", "a"}, {"f(a)", "g(a)", false, "a", "a"},
		{"[a|b]", "[a|c]", false, "a", "a"}, {"[a|b]", "[c|b]", false, "a", "a"}, {"f(a,a,a,a,a,a,a,b)", "f(a,a,a,a,a,a,a,c)", false, "a", "a"}, {"f(b,a,a,a,a,a,a,a)", "f(c,a,a,a,a,a,a,a)", false, "a", "a"},
		// Pairs of parts go from left to right, ahead of the others; what was bound up to then stays bound.
		{"f(X0,a,X1)", "f(a,b,a)", false, "[X0|X1]", "[a|X1]"}, {"f(X0,a)", "f(b,c)", false, "X0", "b"}, {"f(a,X0)", "f(c,b)", false, "X0", "X0"},
		{"g(f(X0,a),X1)", "g(f(a,b),a)", false, "[X0|X1]", "[a|X1]"}, {"g(f(a,X0),X1)", "g(f(a,a),a)", true, "[X0|X1]", "[a|a]"}, {"g([X0|X1],b)", "g([a|b],a)", false, "[X0|X1]", "[a|b]"}, {"[g(a,b)|X0]", "[g(a,c)|a]", false, "X0", "X0"}, {"f(X0,X0,X1)", "f(a,b,a)", false, "[X0|X1]", "[a|X1]"},
		// What is bound is looked at as what it is bound to.
		{"f(X0,X0)", "f(a,a)", true, "X0", "a"}, {"f(X0,X0)", "f(g(X1),g(a))", true, "[X0|X1]", "[g(a)|a]"}, {"f(X0,X1,X1)", "f(X1,X0,a)", true, "[X0|X1]", "[a|a]"}, {"f(X0,X1,X0,X1)", "f(X1,X0,a,b)", false, "[X0|X1]", "[a|a]"},
	} {
		h := fresh(t, 100)
		build(t, h, "f(X0,X1)")
		a, b := build(t, h, c.a), build(t, h, c.b)
		one, e := h.Unify(a, b)
		x, re := h.Read(build(t, h, c.all))
		if one != c.one || e != api.OK || re != api.OK || term.Text(x) != c.read {
			t.Error(c.a, c.b, one, e, term.Text(x), re)
		}
		if len(h.Trail()) != 0 {
			t.Error(h.Trail())
		}
		if one {
			x, _ := h.Read(a)
			y, _ := h.Read(b)
			if !term.Same(x, y) {
				t.Error(c.a, c.b, term.Text(x), term.Text(y))
			}
		}
	}
}

// P5.1: of two variables the one in the greater place is bound, whichever stands left, and by whatever Refs they are come to.
func TestUnifyVariables(t *testing.T) {
	for _, c := range []struct {
		a, b cell.Cell
		want string
	}{
		{ref(0), ref(1), "ref 0, ref 0, ref 2, ref 2, ref 1"}, {ref(1), ref(0), "ref 0, ref 0, ref 2, ref 2, ref 1"}, {ref(2), ref(0), "ref 0, ref 1, ref 0, ref 2, ref 1"}, {ref(0), ref(2), "ref 0, ref 1, ref 0, ref 2, ref 1"},
		{ref(3), ref(4), "ref 0, ref 1, ref 1, ref 2, ref 1"}, {ref(4), ref(3), "ref 0, ref 1, ref 1, ref 2, ref 1"}, {ref(3), ref(2), "ref 0, ref 1, ref 2, ref 2, ref 1"}, {ref(2), ref(2), "ref 0, ref 1, ref 2, ref 2, ref 1"},
		// What it is bound to is what Deref has.
		{ref(3), con(1), "ref 0, ref 1, con 1, ref 2, ref 1"}, {str(4), ref(4), "ref 0, str 4, ref 2, ref 2, ref 1"}, {ref(0), ref(4), "ref 0, ref 0, ref 2, ref 2, ref 1"},
	} {
		h := of(t, ref(0), ref(1), ref(2), ref(2), ref(1))
		if one, e := h.Unify(c.a, c.b); !one || e != api.OK || texts(h.Cells()) != c.want {
			t.Error(c.a.Text(), c.b.Text(), one, e, texts(h.Cells()))
		}
	}
}

// P5.1: names that With was given twice are one name under either number.
func TestUnifyNames(t *testing.T) {
	h, _ := With(20, Names{[]string{"a", "b", "a"}, []Fun{{"f", 1}, {"f", 2}, {"f", 1}}})
	for _, c := range []cell.Cell{fun(0), con(0), fun(2), con(2), fun(1), con(0), con(0), fun(0), con(1)} {
		h.Push(c)
	}
	for _, c := range []struct {
		a, b cell.Cell
		want bool
	}{
		{con(0), con(2), true}, {con(2), con(0), true}, {con(0), con(1), false}, {con(1), con(2), false},
		{str(0), str(2), true}, {str(2), str(0), true}, {str(0), str(4), false}, {str(2), str(4), false}, {str(0), str(7), false},
	} {
		if one, e := h.Unify(c.a, c.b); one != c.want || e != api.OK {
			t.Error(c.a.Text(), c.b.Text(), one, e)
		}
	}
}

// wrap is f(..f(c)..).
func wrap(h *Heap, c cell.Cell, times int) cell.Cell {
	for range times {
		at := h.cells.Top()
		h.Push(fun(0))
		h.Push(c)
		c = str(at)
	}
	return c
}

// P5.1: 4096 pairs are gone through, and not one more: also where the next one would be false.
func TestUnifyPairs(t *testing.T) {
	for _, c := range []struct {
		names, wraps int // 1 and 2 a name, and 1 a wrap, pairs in all
		last         cell.Cell
		one          bool
		e            api.Errno
	}{
		{2047, 0, con(1), true, api.OK}, {2047, 1, con(1), true, api.OK}, {2047, 2, con(1), false, api.ErrFull}, {2048, 0, con(1), false, api.ErrFull}, {0, 4095, con(1), true, api.OK}, {0, 4096, con(1), false, api.ErrFull}, {9000, 0, con(1), false, api.ErrFull},
		{2047, 1, con(0), false, api.OK}, {2047, 2, con(0), false, api.ErrFull}, {2048, 0, con(0), false, api.ErrFull}, {0, 4095, con(0), false, api.OK}, {0, 4096, con(0), false, api.ErrFull},
	} {
		h := of(t)
		a := wrap(h, row(t, h, c.names), c.wraps)
		b := wrap(h, row(t, h, c.names), c.wraps)
		end := 2*c.names - 1 // where the last name of a stands
		if c.names == 0 {
			end = 1
		}
		for i, x := range h.Cells() {
			if i <= end && x == con(1) {
				h.cells.Set(i, c.last)
			}
		}
		if one, e := h.Unify(a, b); one != c.one || e != c.e {
			t.Error(c, one, e)
		}
	}
}

// P5.1: pairs are counted one by one, also in the midst of parts; those beyond the last stay as they were, those ahead bound.
func TestUnifyPairsInTheMidst(t *testing.T) {
	for wraps := 4085; wraps < 4096; wraps++ {
		h := of(t)
		for i := range 8 {
			h.Push(ref(i))
		}
		f, _ := h.Build(parse(t, "h(a,a,a,a,a,a,a,a)"))
		at := h.cells.Top()
		h.Push(h.cells.Cells()[f.Number()])
		for i := range 8 {
			h.Push(ref(i))
		}
		one, e := h.Unify(wrap(h, str(at), wraps), wrap(h, f, wraps))
		bound := min(8, 4096-wraps-1)
		if one != (bound == 8) || (e == api.ErrFull) == one {
			t.Error(wraps, one, e)
		}
		for i, c := range h.Cells()[:8] {
			if (c == con(0)) != (i < bound) || (c == ref(i)) != (i >= bound) {
				t.Error(wraps, i, c.Text())
			}
		}
	}
}

// P5.1: nothing is asked of a term within itself: one is made, and two of them end by their pairs, or are the same cell.
func TestUnifyCycles(t *testing.T) {
	h := fresh(t, 100)
	x, y := build(t, h, "X0"), build(t, h, "X1")
	a, b, c := build(t, h, "f(X0)"), build(t, h, "f(X1)"), build(t, h, "f(g(X1))")
	for _, p := range [][2]cell.Cell{{x, a}, {y, b}, {x, x}, {x, a}, {a, a}} {
		if one, e := h.Unify(p[0], p[1]); !one || e != api.OK {
			t.Error(p, one, e)
		}
	}
	if one, e := h.Unify(a, b); one || e != api.ErrFull {
		t.Error(one, e)
	}
	if one, e := h.Unify(a, c); one || e != api.OK {
		t.Error(one, e)
	}
}

// within tells whether a term is within itself, or one would be behind making both one.
func within(h *Heap, cells ...cell.Cell) bool {
	for _, c := range cells {
		if _, e := h.Read(c); e == api.ErrCycle {
			return true
		}
	}
	return false
}

// P5.3: Unify comes to true just where layer 4 makes both one; then all is read as one of the most general. A heap that was made one already counts as what it is read as.
func TestUnifyAsTrees(t *testing.T) {
	count := map[api.Errno]int{}
	for seed := range 6000 {
		r := rand.New(rand.NewSource(int64(seed)))
		h := fresh(t, 1000)
		vars := build(t, h, "f(X0,X1,X2,X3,X4)")
		for range 4 {
			depth := 1 + r.Intn(4)
			a, b := build(t, h, random(r, depth, 5)), build(t, h, random(r, depth, 5))
			ta, _ := h.Read(a)
			tb, _ := h.Read(b)
			all, e := h.Read(vars)
			if e != api.OK {
				t.Fatal(e)
			}
			s, want := mgu.Unify(ta, tb)
			h.Mark()
			one, e := h.Unify(a, b)
			count[want]++
			if want == api.ErrCycle {
				if one && !within(h, a, b, vars) || e != api.OK && e != api.ErrFull {
					t.Fatal(term.Text(ta), term.Text(tb), one, e)
				}
			} else if one != (want == api.OK) || e != api.OK {
				t.Fatal(term.Text(ta), term.Text(tb), one, e, want)
			}
			if want != api.OK {
				h.Undo()
				h.Drop()
				continue
			}
			na, _ := h.Read(a)
			nb, _ := h.Read(b)
			now, _ := h.Read(vars)
			if !term.Same(na, nb) || !mgu.Alike([]term.Term{na, now}, []term.Term{mgu.Apply(s, ta), mgu.Apply(s, all)}) {
				t.Fatal(term.Text(ta), term.Text(tb), term.Text(na), term.Text(nb))
			}
		}
	}
	for _, e := range []api.Errno{api.OK, api.ErrClash, api.ErrCycle} {
		if count[e] < 1000 {
			t.Error(e, count[e])
		}
	}
}

// P5.1: of wrong cells nothing is told but an end; this heap doesn't tell true of what leads nowhere.
func TestUnifyWrong(t *testing.T) {
	h := of(t, ref(0), str(1), con(0), fun(9), con(0), fun(1), con(0))
	was := h.Cells()
	for _, c := range append([]cell.Cell{ref(9), str(9), lis(6), lis(1 << 39), str(5)}, wrongCells...) {
		for _, p := range [][2]cell.Cell{{c, con(0)}, {con(0), c}, {c, str(1)}, {lis(3), c}} {
			if one, e := h.Unify(p[0], p[1]); one {
				t.Error(p[0].Text(), p[1].Text(), one, e)
			}
		}
	}
	if !slices.Equal(h.Cells(), was) {
		t.Error(texts(h.Cells()))
	}
}

// P5.1: a Fun of many parts, of which only so many pairs can come, takes no more memory than these.
func TestUnifyWide(t *testing.T) {
	const arity = 30000
	h, _ := With(most, Names{[]string{"a"}, []Fun{{"f", arity}}})
	h.Push(fun(0))
	for range arity {
		h.Push(str(0))
	}
	other := str(h.cells.Top())
	h.Push(fun(0))
	for range arity {
		h.Push(other)
	}
	if one, e := h.Unify(str(0), other); one || e != api.ErrFull {
		t.Error(one, e)
	}
	if x, e := h.Read(other); e != api.ErrCycle || !noTerm(x) {
		t.Error(e)
	}
}
