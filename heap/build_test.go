package heap

import (
	"fmt"
	"math/rand"
	"slices"
	"strings"
	"testing"

	"resolvent/api"
	"resolvent/cell"
	"resolvent/mgu"
	"resolvent/term"
)

// P5.1: which cells come, in which order, and which one means the term.
func TestBuildCells(t *testing.T) {
	for _, c := range []struct{ terms, answers, cells, atoms, funs string }{
		{"X7", "ref 0", "ref 0", "", ""},
		{"a", "con 0", "", "a", ""},
		{"X7 X8 X7 X0", "ref 0, ref 1, ref 0, ref 2", "ref 0, ref 1, ref 2", "", ""},
		{"a b a", "con 0, con 1, con 0", "", "a b", ""},
		{"f(X0)", "str 1", "ref 0, fun 0, ref 0", "", "f/1"},
		{"f(a)", "str 0", "fun 0, con 0", "a", "f/1"},
		{"[a|b]", "lis 0", "con 0, con 1", "a b", ""},
		{"[X1|X0]", "lis 2", "ref 0, ref 1, ref 0, ref 1", "", ""},
		{"f(X0,X0)", "str 1", "ref 0, fun 0, ref 0, ref 0", "", "f/2"},
		// Parts from left to right, each whole; then what they are parts of.
		{"f(g(a),[b|X0])", "str 5", "fun 0, con 0, ref 2, con 1, ref 2, fun 1, str 0, lis 3", "a b", "g/1 f/2"},
		{"[[a|b]|f(c)]", "lis 4", "con 0, con 1, fun 0, con 2, lis 0, str 2", "a b c", "f/1"},
		{"f(f(f(a)))", "str 4", "fun 0, con 0, fun 0, str 0, fun 0, str 2", "a", "f/1"},
		// A name with another number of terms is another Fun; a name alone is none.
		{"f(f,f(f,f))", "str 3", "fun 0, con 0, con 0, fun 0, con 0, str 0", "f", "f/2"},
		{"f(a) f(a,a) f f(b)", "str 0, str 2, con 1, str 5", "fun 0, con 0, fun 1, con 0, con 0, fun 0, con 2", "a f b", "f/1 f/2"},
		{"f(a,b,c,d,e,f,g,h)", "str 0", "fun 0, con 0, con 1, con 2, con 3, con 4, con 5, con 6, con 7", "a b c d e f g h", "f/8"},
		// Numbers' places hold from one call to the next.
		{"f(X999) [X999|X0] X0", "str 1, lis 4, ref 3", "ref 0, fun 0, ref 0, ref 3, ref 0, ref 3", "", "f/1"},
	} {
		h := fresh(t, 100)
		var answers []cell.Cell
		for _, s := range strings.Fields(c.terms) {
			answers = append(answers, build(t, h, s))
		}
		var funs []string
		for _, f := range h.Names().Funs {
			funs = append(funs, fmt.Sprint(f.Name, "/", f.Arity))
		}
		if texts(answers) != c.answers || texts(h.Cells()) != c.cells || strings.Join(h.Names().Atoms, " ") != c.atoms || strings.Join(funs, " ") != c.funs {
			t.Error(c.terms, texts(answers), texts(h.Cells()), h.Names())
		}
	}
}

// P5.1: a variable's number keeps its place, whatever that is bound to.
func TestBuildBound(t *testing.T) {
	h := of(t)
	build(t, h, "X0")
	h.Unify(ref(0), con(1))
	if c := build(t, h, "f(X0)"); c != str(1) || texts(h.Cells()) != "con 1, fun 0, ref 0" {
		t.Error(c.Text(), texts(h.Cells()))
	}
	if x, e := h.Read(str(1)); e != api.OK || term.Text(x) != "f(b)" {
		t.Error(term.Text(x), e)
	}
}

// P5.1: names that With was given have their numbers; of two that are the same the first counts.
func TestBuildNames(t *testing.T) {
	h, _ := With(20, Names{[]string{"a", "b", "a"}, []Fun{{"f", 2}, {"f", 1}, {"f", 1}}})
	if c := build(t, h, "[f(a)|f(c,b)]"); c != lis(5) || texts(h.Cells()) != "fun 1, con 0, fun 0, con 3, con 1, str 0, str 2" {
		t.Error(c.Text(), texts(h.Cells()))
	}
	if n := h.Names(); !slices.Equal(n.Atoms, []string{"a", "b", "a", "c"}) || len(n.Funs) != 3 {
		t.Error(n)
	}
}

// P5.1: where there is no room, whatever part lacks it, nothing changes but Names.
func TestBuildNoRoom(t *testing.T) {
	for s, need := range map[string]int{"X9": 1, "a": 0, "f(a)": 2, "f(X9)": 3, "[a|b]": 2, "[X8|X9]": 4, "f(X8,g(X9),[X8|X7])": 11, "f(a,b,c,d,e,f,g,h)": 9, "[a|[b|[c|X9]]]": 7, "f(f(f(X9)))": 7} {
		for free := range need + 2 {
			h := fresh(t, 2+free)
			build(t, h, "[z|z]")
			h.Mark()
			c, ok := h.Build(parse(t, s))
			if ok != (free >= need) || !ok && c != 0 {
				t.Error(s, free, c.Text(), ok)
			}
			if ok && len(h.Cells()) != 2+need {
				t.Error(s, free, texts(h.Cells()))
			}
			if ok {
				continue
			}
			if texts(h.Cells()) != "con 0, con 0" || h.Marks() != 1 || len(h.Trail()) != 0 || h.Names().Atoms[0] != "z" {
				t.Error(s, free, texts(h.Cells()))
			}
			// Numbers whose places are gone get new ones.
			for i := range free {
				if c, ok := h.Build(term.Term{N: 9 - i}); !ok || c != ref(2+i) {
					t.Error(s, free, c.Text(), ok)
				}
			}
		}
	}
}

// P5.1: without room a variable that has a place and a name are built yet.
func TestBuildFull(t *testing.T) {
	h := fresh(t, 1)
	build(t, h, "X5")
	if build(t, h, "X5") != ref(0) || build(t, h, "a") != con(0) || build(t, h, "b") != con(1) {
		t.Error(texts(h.Cells()), h.Names())
	}
	if _, ok := h.Build(parse(t, "X6")); ok || len(h.Cells()) != 1 {
		t.Error(texts(h.Cells()))
	}
}

// deep is a term of so many levels: f(f(..f(a)..)).
func deep(levels int) term.Term {
	x := term.Term{Kind: term.Con, Name: "a"}
	for range levels {
		x = term.Term{Kind: term.Str, Name: "f", Args: []term.Term{x}}
	}
	return x
}

// P5.1: the deepest terms fill a heap to its last cell; one level more is refused.
func TestBuildDeep(t *testing.T) {
	h := fresh(t, most)
	c, ok := h.Build(deep(most / 2))
	if !ok || c != str(most-2) || len(h.Cells()) != most {
		t.Error(c.Text(), ok, len(h.Cells()))
	}
	if _, e := h.Read(c); e != api.ErrFull {
		t.Error(e)
	}
	for _, levels := range []int{most/2 + 1, most} {
		h = fresh(t, most)
		if c, ok := h.Build(deep(levels)); ok || c != 0 || len(h.Cells()) != 0 {
			t.Error(levels, c.Text(), ok)
		}
	}
}

// P5.1: a term that isn't Right isn't built, and changes nothing.
func TestBuildWrong(t *testing.T) {
	a := term.Term{Kind: term.Con, Name: "a"}
	h := fresh(t, 100)
	build(t, h, "f(X0,b)")
	was, names := texts(h.Cells()), h.Names()
	bad := []term.Term{
		{Kind: -1}, {Kind: 4}, {N: -1}, {N: 1000}, {N: 0, Name: "a"}, {N: 0, Args: []term.Term{a}},
		{Kind: term.Con}, {Kind: term.Con, Name: "A"}, {Kind: term.Con, Name: strings.Repeat("a", 33)}, {Kind: term.Con, Name: "a", N: 1}, {Kind: term.Con, Name: "a", Args: []term.Term{a}},
		{Kind: term.Str, Name: "f"}, {Kind: term.Str, Args: []term.Term{a}}, {Kind: term.Str, Name: "f", Args: slices.Repeat([]term.Term{a}, 9)},
		{Kind: term.Lis}, {Kind: term.Lis, Args: []term.Term{a}}, {Kind: term.Lis, Args: []term.Term{a, a, a}}, {Kind: term.Lis, Name: "l", Args: []term.Term{a, a}},
	}
	for _, x := range bad {
		for _, whole := range []term.Term{x, {Kind: term.Lis, Args: []term.Term{a, x}}, {Kind: term.Str, Name: "g", Args: []term.Term{{N: 5}, x}}} {
			if c, ok := h.Build(whole); ok || c != 0 || texts(h.Cells()) != was {
				t.Error(whole, c.Text(), ok)
			}
			if n := h.Names(); !slices.Equal(n.Atoms, names.Atoms) || !slices.Equal(n.Funs, names.Funs) {
				t.Error(whole, n)
			}
		}
	}
	if c := build(t, h, "X5"); c != ref(4) {
		t.Error(c.Text())
	}
}

// P5.2: what is built is read as it was, but for variables' numbers; several terms keep the variables that they share.
func TestBuiltIsRead(t *testing.T) {
	for seed := range 3000 {
		r := rand.New(rand.NewSource(int64(seed)))
		h := fresh(t, most)
		var terms, back []term.Term
		var cells []cell.Cell
		for range 1 + r.Intn(4) {
			x := parse(t, random(r, r.Intn(5), 1+r.Intn(6)))
			c, ok := h.Build(x)
			if !ok {
				t.Fatal(term.Text(x))
			}
			terms, cells = append(terms, x), append(cells, c)
		}
		for _, c := range cells {
			x, e := h.Read(c)
			if e != api.OK {
				t.Fatal(e)
			}
			back = append(back, x)
		}
		if !mgu.Alike(terms, back) {
			t.Fatal(terms, back)
		}
	}
}

// P5.5 and rule 4: a term that is handed in isn't changed, and not kept.
func TestTermIsNotKept(t *testing.T) {
	h := fresh(t, 100)
	a := []term.Term{{N: 3}, {Kind: term.Con, Name: "a"}, {Kind: term.Con, Name: "spare"}}
	x := term.Term{Kind: term.Str, Name: "f", Args: a[:2]}
	c, _ := h.Build(x)
	if term.Text(x) != "f(X3,a)" || a[2].Name != "spare" {
		t.Error(term.Text(x), a[2])
	}
	a[0], a[1] = a[1], a[0]
	if y, e := h.Read(c); e != api.OK || term.Text(y) != "f(X0,a)" {
		t.Error(term.Text(y), e)
	}
}
