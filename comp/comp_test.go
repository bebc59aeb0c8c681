package comp_test

import (
	"slices"
	"strconv"
	"strings"
	"testing"

	"resolvent/api"
	"resolvent/comp"
	"resolvent/term"
)

// parse is the term of a text.
func parse(t *testing.T, s string) term.Term {
	t.Helper()
	x, e := term.Parse(s)
	if e != api.OK {
		t.Fatal(s, e.Word())
	}
	return x
}

// made is a clause of the texts of its terms, without comp.Parse.
func made(t *testing.T, head string, goals ...string) comp.Clause {
	t.Helper()
	c := comp.Clause{Head: parse(t, head)}
	for _, goal := range goals {
		c.Body = append(c.Body, parse(t, goal))
	}
	return c
}

// clauses are those of a row of texts, with "; " between.
func clauses(t *testing.T, row string) []comp.Clause {
	t.Helper()
	if row == "" {
		return nil
	}
	var l []comp.Clause
	for _, s := range strings.Split(row, "; ") {
		c, e := comp.Parse(s)
		if e != api.OK {
			t.Fatal(s, e.Word())
		}
		l = append(l, c)
	}
	return l
}

func sameClause(a, b comp.Clause) bool {
	return term.Same(a.Head, b.Head) && slices.EqualFunc(a.Body, b.Body, term.Same)
}

// row is texts of variables, with commas between, from the number from on.
func row(from, n int) string {
	var l []string
	for k := range n {
		l = append(l, "X"+strconv.Itoa(from+k))
	}
	return strings.Join(l, ",")
}

func holdRight(t *testing.T, c comp.Clause, want bool) {
	t.Helper()
	if comp.Right(c) != want {
		t.Errorf("%v: should be %v", c, want)
	}
	if !want {
		holdForm(t, c)
	}
}

// holdForm holds that a clause that isn't Right is one nowhere.
func holdForm(t *testing.T, c comp.Clause) {
	t.Helper()
	l, e, at := comp.Lines(c)
	if len(l) != 0 || e != api.ErrForm || at != 0 {
		t.Error(c, l, e.Word(), at)
	}
	o, e, at := comp.Program(c)
	if len(o.Code)+len(o.Preds) != 0 || e != api.ErrForm || at != 0 {
		t.Error(c, o, e.Word(), at)
	}
	if _, e := comp.Parse(comp.Text(c)); term.Right(c.Head) && !slices.ContainsFunc(c.Body, func(x term.Term) bool { return !term.Right(x) }) && e != api.ErrWord {
		t.Error(comp.Text(c), e.Word())
	}
}

// P14.1: which terms may be a Head, and which a goal.
func TestRightTerms(t *testing.T) {
	for s, want := range map[string]bool{
		"p": true, "p(a)": true, "p(X0)": true, "p([X0|X1],f(b))": true, "cut1": true, "failed": true, "p(cut,fail)": true, "f(X999)": true,
		"X0": false, "[a|b]": false, "cut": false, "fail": false, "cut(a)": false, "fail(X0,b)": false,
	} {
		holdRight(t, made(t, s), want)
		holdRight(t, made(t, s, "p"), want)
	}
	for s, want := range map[string]bool{
		"p": true, "p(a)": true, "cut": true, "fail": true, "cut(a)": true, "fail(X0,b)": true,
		"X0": false, "[a|b]": false,
	} {
		holdRight(t, made(t, "p", s), want)
		holdRight(t, made(t, "p", "q", s, "r"), want)
		holdRight(t, made(t, "p", s, s), want)
	}
}

// wrongTerms aren't Right by layer 3.
func wrongTerms() []term.Term {
	a := term.Term{Kind: term.Con, Name: "a"}
	return []term.Term{
		{Kind: term.Con}, {Kind: term.Con, Name: "P"}, {Kind: term.Con, Name: "p", N: 1}, {Kind: term.Con, Name: "p", Args: []term.Term{a}},
		{Kind: term.Con, Name: strings.Repeat("p", 33)}, {Kind: term.Con, Name: "p q"}, {Kind: term.Con, Name: "p."},
		{Kind: term.Str, Name: "p"}, {Kind: term.Str, Name: "p", Args: slices.Repeat([]term.Term{a}, 9)}, {Kind: term.Str, Name: "p", N: -1, Args: []term.Term{a}},
		{Kind: term.Str, Name: "", Args: []term.Term{a}}, {Kind: term.Str, Name: "p", Args: []term.Term{{Kind: term.Var, N: 1000}}},
		{Kind: term.Str, Name: "p", Args: []term.Term{{Kind: term.Var, N: -1}}}, {Kind: term.Str, Name: "p", Args: []term.Term{{Kind: term.Lis, Args: []term.Term{a}}}},
		{Kind: term.Str, Name: "p", Args: []term.Term{a, {Kind: 4, Name: "a"}}}, {Kind: 4, Name: "p"}, {Kind: -1, Name: "p"}, {Kind: 1 << 62, Name: "p", Args: []term.Term{a}},
		{Kind: term.Lis}, {Kind: term.Var, N: 1000}, {},
	}
}

// P14.1: a term that isn't Right makes no Right clause, wherever it stands.
func TestRightWrongTerms(t *testing.T) {
	p := parse(t, "p")
	for _, x := range wrongTerms() {
		holdRight(t, comp.Clause{Head: x}, false)
		holdRight(t, comp.Clause{Head: x, Body: []term.Term{p}}, false)
		holdRight(t, comp.Clause{Head: p, Body: []term.Term{x}}, false)
		holdRight(t, comp.Clause{Head: p, Body: []term.Term{p, p, p, p, p, p, p, x}}, false)
		holdRight(t, comp.Clause{Head: p, Body: []term.Term{x, p}}, false)
	}
	holdRight(t, comp.Clause{}, false)
}

// P14.1: 8 goals at most, whichever they are.
func TestRightGoals(t *testing.T) {
	for _, goal := range []string{"p", "cut", "fail", "p(X0,a)"} {
		for n := range 12 {
			holdRight(t, made(t, "p", slices.Repeat([]string{goal}, n)...), n <= 8)
		}
	}
}

// P14.1: 12 variables at most, in all terms together; one that comes again is one.
func TestRightVariables(t *testing.T) {
	for n := 1; n <= 8; n++ {
		for m := 1; m <= 8; m++ {
			holdRight(t, made(t, "p("+row(0, n)+")", "q("+row(n, m)+")"), n+m <= 12)
			holdRight(t, made(t, "p", "q("+row(0, n)+")", "r", "q("+row(100, m)+")"), n+m <= 12)
			holdRight(t, made(t, "p(f("+row(990, n)+"),["+row(0, 1)+"|g("+row(0, m)+")])"), n+m <= 12)
			holdRight(t, made(t, "p("+row(0, n)+")", "q("+row(0, m)+")", "cut", "q("+row(0, n)+")"), true)
		}
	}
	holdRight(t, made(t, "p("+row(0, 8)+")", "q("+row(8, 4)+")", "q("+row(0, 8)+")", "q("+row(4, 8)+")"), true)
	holdRight(t, made(t, "p("+row(0, 8)+")", "q("+row(8, 4)+")", "q("+row(0, 8)+")", "q("+row(5, 8)+")"), false)
	holdRight(t, made(t, "p("+row(0, 8)+")", "q("+row(8, 4)+")", "fail", "q(X12)"), false)
	holdRight(t, made(t, "p("+row(988, 8)+")", "q("+row(996, 4)+")"), true)
}

// P1: calls end, whatever terms there are.
func TestWrongTermsEnd(t *testing.T) {
	for _, x := range wrongTerms() {
		for _, y := range wrongTerms() {
			c := comp.Clause{Head: x, Body: []term.Term{y, x}}
			if s := comp.Text(c); !strings.HasSuffix(s, ".") {
				t.Error(s)
			}
			holdForm(t, c)
		}
	}
	deep := parse(t, "a")
	for range 1 << 16 {
		deep = term.Term{Kind: term.Lis, Args: []term.Term{deep, {}}}
	}
	c := made(t, "p(a)")
	c.Head.Args[0] = deep
	if _, e, at := comp.Lines(c); e != api.ErrFull || at != 0 || !comp.Right(c) {
		t.Error(e.Word(), at)
	}
}
