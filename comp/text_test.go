package comp_test

import (
	"math/rand"
	"strings"
	"testing"

	"resolvent/api"
	"resolvent/comp"
	"resolvent/term"
)

// texts are of Right clauses.
var texts = []struct {
	text  string
	head  string
	goals []string
}{
	{"p.", "p", nil},
	{"p(a).", "p(a)", nil},
	{"p(X0,[X1|f(X0)]).", "p(X0,[X1|f(X0)])", nil},
	{"p :- q.", "p", []string{"q"}},
	{"p :- cut.", "p", []string{"cut"}},
	{"p(X0) :- q(X0), r.", "p(X0)", []string{"q(X0)", "r"}},
	{"p(a,b) :- q(a,b), cut, fail.", "p(a,b)", []string{"q(a,b)", "cut", "fail"}},
	{"p :- a, b, c, d, e, f, g, h.", "p", []string{"a", "b", "c", "d", "e", "f", "g", "h"}},
	{"app([X0|X1],X2,[X0|X3]) :- app(X1,X2,X3).", "app([X0|X1],X2,[X0|X3])", []string{"app(X1,X2,X3)"}},
	{"x9y(X999) :- cut(X12), fail(a).", "x9y(X999)", []string{"cut(X12)", "fail(a)"}},
}

// P14.1: Texts, and Parse of them.
func TestText(t *testing.T) {
	for _, c := range texts {
		want := made(t, c.head, c.goals...)
		if s := comp.Text(want); s != c.text {
			t.Error(s, "should be", c.text)
		}
		holdParse(t, c.text, want)
	}
	// Of clauses that aren't Right it says likewise what they have.
	for s, c := range map[string]comp.Clause{
		"X0.":                               made(t, "X0"),
		"[a|b] :- X1, cut.":                 made(t, "[a|b]", "X1", "cut"),
		"cut :- a, a, a, a, a, a, a, a, a.": made(t, "cut", "a", "a", "a", "a", "a", "a", "a", "a", "a"),
	} {
		if comp.Text(c) != s {
			t.Error(comp.Text(c), "should be", s)
		}
	}
}

// holdParse holds that a text is this clause's.
func holdParse(t *testing.T, s string, want comp.Clause) {
	t.Helper()
	c, e := comp.Parse(s)
	if e != api.OK || !sameClause(c, want) || !comp.Right(c) || comp.Text(c) != s {
		t.Error(s, c, e.Word())
	}
}

// holdWord holds that a text is no Right clause's.
func holdWord(t *testing.T, s string) {
	t.Helper()
	if c, e := comp.Parse(s); e != api.ErrWord || !sameClause(c, comp.Clause{}) {
		t.Errorf("%q: %v, %v", s, c, e.Word())
	}
}

// P14.1: texts that are no clause's.
func TestParseWrong(t *testing.T) {
	for _, s := range []string{
		"", ".", " ", "p", "p ", " p.", "p .", "p. ", "p..", ".p.", ".p", "p.p.", "p.\n", "\tp.", "p,", "p, q.", "p,q.", "p.q",
		":- q.", " :- q.", "p :-.", "p :- .", "p :-  .", "p:-q.", "p :-q.", "p:- q.", "p  :- q.", "p :-  q.", "p :- q .", "p : - q.", "p -: q.", "p := q.", "p :- q", "p q.", "p :- q :- r.", "p :- :- q.", "p -> q.",
		"p :- q,r.", "p :- q , r.", "p :- q,  r.", "p :- q r.", "p :- q, .", "p :- q,.", "p :- , q.", "p :- ,q.", "p :- q,, r.", "p :- q, , r.", "p :- q. r.", "p :- q, r", "p :- q, r,", "p :- q; r.", "p :- q, r..", "p :- q., r.",
		"p( a).", "p(a ).", "p(a, b).", "p (a).", "p(a)b.", "p(a))", "p(a)).", "p((a)).", "p(a.", "p(a", "p(", "p().", "p(,).", "p(a,).", "p(,a).", "p)", "p(a|b).", "p(a]).", "p([a|b).", "p([a|b]]).", "p([a]).", "p([]).", "p([a,b]).", "p([a|b|c]).", "p([|]).", "p([a|]).", "p([|a]).", "p[a|b].", "p(a)(b).", "p(f(a)(b)).", "p([a|b]c).", "p([a|b](c)).", "p(c[a|b]).",
		"p(a,a,a,a,a,a,a,a,a).", "p(A).", "P.", "p(X).", "p(X01).", "p(X1000).", "p(X-1).", "p(X0a).", "p(X0(a)).", "p(1).", "1p.", "p(aB).", "p(é).", "p(\x00).", "p\x00.", "p(\xff).", "p(" + strings.Repeat("a", 33) + ").", strings.Repeat("a", 33) + ".", strings.Repeat("a", 33) + "(a).",
		"X0.", "X0 :- p.", "[a|b].", "[a|b] :- p.", "cut.", "fail.", "cut :- p.", "cut(a).", "fail(a,b).", "fail(X0) :- cut.",
		"p :- X0.", "p :- q, X0.", "p :- [a|b].", "p :- [a|b], q.", "p :- q, A.",
		"p :- a, a, a, a, a, a, a, a, a.", "p(" + row(0, 8) + ") :- q(" + row(8, 5) + ").", "p(f(" + row(0, 8) + "),g(" + row(8, 5) + ")).",
	} {
		holdWord(t, s)
	}
}

// P14.1: texts from which one byte is taken, to which one comes, or of which one is another: what is parsed is what is written back.
func TestParseTurned(t *testing.T) {
	right, wrong := 0, 0
	try := func(s string) {
		c, e := comp.Parse(s)
		if e == api.OK && comp.Right(c) && comp.Text(c) == s {
			right++
		} else {
			wrong++
			holdWord(t, s)
		}
	}
	for _, c := range texts {
		for n := range len(c.text) + 1 {
			ahead, behind := c.text[:n], c.text[n:]
			try(ahead)
			for _, b := range "aX0 .,:-()[]|\x00" {
				try(ahead + string(b) + behind)
				if behind != "" {
					try(ahead + string(b) + behind[1:])
				}
			}
			if behind != "" {
				try(ahead + behind[1:])
				try(ahead + behind[:1] + behind)
			}
		}
	}
	if right < 300 || wrong < 3000 {
		t.Error(right, wrong)
	}
}

// P14.1: a clause's text has no greatest length, and a term's neither.
func TestParseLong(t *testing.T) {
	long := parse(t, "nil")
	name := strings.Repeat("n", 32)
	for range 1000 {
		long = term.Term{Kind: term.Lis, Args: []term.Term{{Kind: term.Str, Name: name, Args: []term.Term{{Kind: term.Var, N: 3}, {Kind: term.Con, Name: name}}}, long}}
	}
	c := made(t, "p(a)", "q(a)", "q(a,b)")
	c.Head.Args[0], c.Body[0].Args[0], c.Body[1].Args[1] = long, long, long
	holdParse(t, comp.Text(c), c)
	holdWord(t, comp.Text(c)+".")
	holdWord(t, strings.Replace(comp.Text(c), "nil", "nil|nil", 1))
	const nested = 60000
	s := "p(" + strings.Repeat("[a|f(", nested/2) + "X0" + strings.Repeat(")]", nested/2) + ")."
	if c, e := comp.Parse(s); e != api.OK || comp.Text(c) != s {
		t.Error(e.Word())
	}
	// However many brackets there are side by side, they aren't nested.
	s = "a"
	for range 6 {
		s = "f(" + strings.Repeat(s+",", 7) + "[X0|" + s + "])"
	}
	s = "p(" + s + ") :- q(" + s + ")."
	if c, e := comp.Parse(s); e != api.OK || comp.Text(c) != s {
		t.Error(e.Word())
	}
}

// P1: Parse ends, whatever bytes there are, however many.
func TestParseEnds(t *testing.T) {
	for _, s := range []string{"p(", "[", "f([", "[f(a,", "[a|", "p :- ", "p(a)", "X", "a", " ", ".", "\xff", "p, ", "(", ")"} {
		holdWord(t, strings.Repeat(s, 3000000))
	}
	r := rand.New(rand.NewSource(71))
	for range 20000 {
		b := make([]byte, r.Intn(12))
		for k := range b {
			b[k] = "pX0(),[]|.:- a"[r.Intn(14)]
		}
		if c, e := comp.Parse(string(b)); e != api.OK || comp.Text(c) != string(b) {
			holdWord(t, string(b))
		}
	}
}
