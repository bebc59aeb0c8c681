package comp_test

import (
	"slices"
	"strings"
	"testing"

	"resolvent/api"
	"resolvent/comp"
	"resolvent/obj"
	"resolvent/term"
)

// roomy is a copy of terms, each list of which has spare room with other terms in it.
func roomy(l []term.Term) []term.Term {
	row := slices.Repeat([]term.Term{{Kind: term.Con, Name: "spare"}}, len(l)+3)
	for k, x := range l {
		x.Args = roomy(x.Args)
		row[k] = x
	}
	return row[:len(l)]
}

// kept holds that terms are those that others were, and that their spare room is as it was.
func kept(l, were []term.Term) bool {
	if len(l) != len(were) {
		return false
	}
	for k, x := range l {
		if x.Kind != were[k].Kind || x.N != were[k].N || x.Name != were[k].Name || !kept(x.Args, were[k].Args) {
			return false
		}
	}
	for _, x := range l[len(l):cap(l)] {
		if x.Kind != term.Con || x.Name != "spare" {
			return false
		}
	}
	return true
}

// spoil turns terms, and their spare room.
func spoil(l []term.Term) {
	all := l[:cap(l)]
	for k := range all {
		spoil(all[k].Args)
		all[k] = term.Term{Kind: term.Con, Name: "turned"}
	}
}

// someClauses are Right, and of some depth.
const someClauses = "p(f(X1,[X0|g(b)]),X0) :- q(X0,[f(X0)|X2],a), cut, p(X2,X2).; q(a,X0,X0).; p(a,b).; q(X0,X1,f(f(X1))) :- p(X0,X1), fail."

// P14.4: what is handed in isn't changed, its spare room neither, also where it is wrong.
func TestHandedIn(t *testing.T) {
	were := clauses(t, someClauses)
	wrong := []comp.Clause{
		made(t, "cut"), made(t, "p(a,b)", "q(a)"), made(t, "p(a,b)", "p(a,"+nest(9, true)+")"), made(t, "p", "X0"),
		made(t, "p(a,b)", "p(f(X0),a)", "p(a,a)", "p(a,a)", "p(a,a)", "p(a,a)", "p(a,a)", "p(a,a)", "p(a,a)", "p(a,a)"),
	}
	for n := range len(wrong) + 1 {
		l := make([]comp.Clause, 0, 20)
		row := slices.Clone(were)
		if n < len(wrong) {
			row = append(row, wrong[n])
		}
		for _, c := range row {
			head := roomy([]term.Term{c.Head})
			l = append(l, comp.Clause{Head: head[0], Body: roomy(c.Body)})
		}
		for _, c := range l {
			comp.Right(c)
			comp.Text(c)
		}
		comp.Lines(l...)
		comp.Program(l...)
		for k, c := range l {
			if !kept(c.Body, row[k].Body) || !kept(c.Head.Args, row[k].Head.Args) || c.Head.Name != row[k].Head.Name || c.Head.Kind != row[k].Head.Kind {
				t.Error(n, k, c)
			}
		}
		for _, c := range l[len(l):cap(l)] {
			if !sameClause(c, comp.Clause{}) {
				t.Error(n, c)
			}
		}
	}
}

// P14.4: answers stay as they are, whatever is done with what was handed in, or with other answers.
func TestAnswersAreNew(t *testing.T) {
	l := clauses(t, someClauses)
	lines, _, _ := comp.Lines(l...)
	o, _, _ := comp.Program(l...)
	wantLines := slices.Clone(lines)
	want, e := obj.Encode(o)
	if e != api.OK {
		t.Fatal(e.Word())
	}
	other, _, _ := comp.Lines(l...)
	for k := range other[:cap(other)] {
		other[:cap(other)][k] = "turned"
	}
	x, _, _ := comp.Program(l...)
	for k := range x.Code {
		x.Code[k].Op = 99
	}
	for k := range x.Preds {
		x.Preds[k].Name = "turned"
	}
	for k := range x.Names.Atoms {
		x.Names.Atoms[k] = "turned"
	}
	for k := range x.Names.Funs {
		x.Names.Funs[k].Name = "turned"
	}
	for k := range l {
		spoil(l[k].Head.Args)
		spoil(l[k].Body)
	}
	b, e := obj.Encode(o)
	if !slices.Equal(lines, wantLines) || e != api.OK || !slices.Equal(b, want) {
		t.Error(lines, o)
	}
	again, _, _ := comp.Lines(clauses(t, someClauses)...)
	if !slices.Equal(again, wantLines) {
		t.Error(again)
	}
}

// P14.4: two answers of Parse, and two lists of one, share nothing.
func TestParseIsNew(t *testing.T) {
	for _, s := range strings.Split(someClauses, "; ") {
		a, _ := comp.Parse(s)
		b, _ := comp.Parse(s)
		spoil(a.Head.Args)
		spoil(a.Body)
		if comp.Text(b) != s {
			t.Error(comp.Text(b), "should be", s)
		}
		c, _ := comp.Parse(s)
		want := comp.Text(comp.Clause{Head: made(t, "p").Head, Body: c.Body})
		spoil(c.Head.Args)
		c.Head = made(t, "p").Head
		if comp.Text(c) != want {
			t.Error(comp.Text(c), "should be", want)
		}
		for k := range c.Body {
			x := comp.Text(comp.Clause{Body: c.Body[k+1:]})
			spoil(c.Body[k].Args)
			if comp.Text(comp.Clause{Body: c.Body[k+1:]}) != x {
				t.Error(s, k)
			}
		}
	}
}

// P14.1: an answer hangs on what is given, on nothing else.
func TestSameAgain(t *testing.T) {
	l := clauses(t, someClauses)
	first, _, _ := comp.Lines(l...)
	for range 50 {
		comp.Lines(l[0])
		comp.Program(l[1:]...)
		again, e, at := comp.Lines(l...)
		if !slices.Equal(again, first) || e != api.OK || at != -1 {
			t.Fatal(again)
		}
	}
}
