package mgu

import (
	"fmt"
	"math"
	"math/rand"
	"reflect"
	"slices"
	"strings"
	"testing"

	"resolvent/api"
	"resolvent/term"
)

func parse(t *testing.T, s string) term.Term {
	t.Helper()
	x, e := term.Parse(s)
	if e != api.OK {
		t.Fatal(s, e)
	}
	return x
}

// words tells a Subst: "X0 a, X1 b".
func words(s Subst) string {
	var l []string
	for _, p := range s {
		l = append(l, fmt.Sprint("X", p.N, " ", term.Text(p.Term)))
	}
	return strings.Join(l, ", ")
}

func copied(t term.Term) term.Term {
	u := t
	u.Args = nil
	for _, part := range t.Args {
		u.Args = append(u.Args, copied(part))
	}
	return u
}

func str(name string, args ...term.Term) term.Term {
	return term.Term{Kind: term.Str, Name: name, Args: args}
}

// random is a Right term of few variables and names, so that many pairs can nearly be made one.
func random(r *rand.Rand, depth, vars int) term.Term {
	k := r.Intn(6)
	if depth == 0 {
		k = r.Intn(3)
	}
	switch k {
	case 0, 1:
		return term.Term{Kind: term.Var, N: r.Intn(vars)}
	case 2:
		return term.Term{Kind: term.Con, Name: []string{"a", "b"}[r.Intn(2)]}
	case 3:
		return term.Term{Kind: term.Lis, Args: []term.Term{random(r, depth-1, vars), random(r, depth-1, vars)}}
	}
	x := term.Term{Kind: term.Str, Name: []string{"f", "f", "f", "g"}[r.Intn(4)]}
	for range 1 + r.Intn(2) {
		x.Args = append(x.Args, random(r, depth-1, vars))
	}
	return x
}

// plain goes by the document's words, one after the other: bound variables are put in by copies.
type plain map[int]term.Term

func (p plain) apply(t term.Term) term.Term {
	if t.Kind == term.Var {
		if b, there := p[t.N]; there {
			return p.apply(b)
		}
	}
	u := t
	u.Args = nil
	for _, part := range t.Args {
		u.Args = append(u.Args, p.apply(part))
	}
	return u
}

func (p plain) bind(n int, t term.Term) api.Errno {
	if slices.Contains(term.Vars(p.apply(t)), n) {
		return api.ErrCycle
	}
	p[n] = t
	return api.OK
}

func (p plain) top(t term.Term) term.Term {
	for t.Kind == term.Var {
		b, there := p[t.N]
		if !there {
			break
		}
		t = b
	}
	return t
}

func (p plain) unify(pairs [][2]term.Term) api.Errno {
	for len(pairs) > 0 {
		a, b := p.top(pairs[0][0]), p.top(pairs[0][1])
		pairs = pairs[1:]
		e := api.OK
		switch {
		case a.Kind == term.Var && b.Kind == term.Var && a.N == b.N:
		case a.Kind == term.Var:
			e = p.bind(a.N, b)
		case b.Kind == term.Var:
			e = p.bind(b.N, a)
		case a.Kind != b.Kind || a.Name != b.Name || len(a.Args) != len(b.Args):
			e = api.ErrClash
		default:
			var parts [][2]term.Term
			for i := range a.Args {
				parts = append(parts, [2]term.Term{a.Args[i], b.Args[i]})
			}
			pairs = append(parts, pairs...)
		}
		if e != api.OK {
			return e
		}
	}
	return api.OK
}

// P4.1: the document's examples, and each rule by itself.
func TestUnifyCases(t *testing.T) {
	for _, c := range []struct {
		a, b, want string
		e          api.Errno
	}{
		{"f(X0,b)", "f(a,X1)", "X0 a, X1 b", api.OK},
		{"X0", "f(X0)", "", api.ErrCycle},
		{"a", "b", "", api.ErrClash},
		{"a", "a", "", api.OK}, {"X0", "X0", "", api.OK}, {"f(X0,[X1|a])", "f(X0,[X1|a])", "", api.OK},
		// The left variable is bound, or else the right one.
		{"X0", "X1", "X0 X1", api.OK}, {"X1", "X0", "X1 X0", api.OK}, {"X5", "a", "X5 a", api.OK}, {"a", "X5", "X5 a", api.OK}, {"f(X0,X1)", "f(X1,X0)", "X0 X1", api.OK}, {"f(X0,X2)", "f(X1,X0)", "X0 X1, X2 X1", api.OK},
		{"f(X1,X1)", "f(X2,X0)", "X1 X0, X2 X0", api.OK}, {"f(X0,X1,X2)", "f(X1,X2,X3)", "X0 X3, X1 X3, X2 X3", api.OK}, {"f(X2,X1,X0)", "f(X3,X2,X1)", "X0 X3, X1 X3, X2 X3", api.OK},
		// What is bound is put in, however deep.
		{"f(X0,X1,X2)", "f(g(X1),g(X2),a)", "X0 g(g(a)), X1 g(a), X2 a", api.OK}, {"f(X2,X1,X0)", "f(a,[X2|X2],[X1|X1])", "X0 [[a|a]|[a|a]], X1 [a|a], X2 a", api.OK}, {"f(X0,X0)", "f(g(X1),g(a))", "X0 g(a), X1 a", api.OK},
		{"f(X999,X998)", "f(X998,X0)", "X998 X0, X999 X0", api.OK},
		// Kinds, names, numbers of terms.
		{"a", "a(b)", "", api.ErrClash}, {"a(b)", "a", "", api.ErrClash}, {"f(a)", "f(a,a)", "", api.ErrClash}, {"f(a,a)", "f(a)", "", api.ErrClash}, {"f(a)", "g(a)", "", api.ErrClash}, {"[a|b]", "f(a,b)", "", api.ErrClash}, {"f(a,b)", "[a|b]", "", api.ErrClash}, {"[a|b]", "a", "", api.ErrClash}, {"[a|b]", "[a|c]", "", api.ErrClash}, {"[a|b]", "[c|b]", "", api.ErrClash},
		{"[X0|X1]", "[a|[b|c]]", "X0 a, X1 [b|c]", api.OK}, {"f(a,X0)", "f(b,f(X0))", "", api.ErrClash}, {"f(X0,a)", "f(f(X0),b)", "", api.ErrCycle}, {"f(X0,a)", "f(X0,b)", "", api.ErrClash},
		// Variables within themselves, by one step or several.
		{"f(X0)", "X0", "", api.ErrCycle}, {"X0", "[a|X0]", "", api.ErrCycle}, {"X0", "[X0|a]", "", api.ErrCycle}, {"f(X0,X1)", "f(g(X1),g(X0))", "", api.ErrCycle}, {"f(X0,X1,X2)", "f(g(X1),g(X2),g(X0))", "", api.ErrCycle}, {"f(X0,X0)", "f(X1,g(X1))", "", api.ErrCycle}, {"f(X1,g(X1))", "f(X0,X0)", "", api.ErrCycle}, {"f(X0,X1,X0)", "f(X1,X0,X1)", "X0 X1", api.OK}, {"f(X0,X1,X1)", "f(X1,X0,h(X0))", "", api.ErrCycle},
		// Pairs of parts come ahead of the others, from left to right: so which of two errors is the first.
		{"f(g(X0,a),c)", "f(g(h(X0),b),d)", "", api.ErrCycle}, {"f(g(a,X0),c)", "f(g(b,h(X0)),d)", "", api.ErrClash}, {"f(g(b,c),X0)", "f(g(b,c),h(X0))", "", api.ErrCycle}, {"f(g(X1,a),X1,X0)", "f(g(b,a),c,h(X0))", "", api.ErrClash}, {"f([X0|a],X0)", "f([b|a],c)", "", api.ErrClash},
	} {
		s, e := Unify(parse(t, c.a), parse(t, c.b))
		if e != c.e || words(s) != c.want {
			t.Error(c.a, c.b, words(s), e)
		}
		if e != api.OK && s != nil {
			t.Error(c.a, c.b, s)
		}
	}
}

// pairsAt gives many pairs of terms, ordinary ones, and such as share much.
func pairsAt(count int, each func(a, b term.Term)) {
	r := rand.New(rand.NewSource(3))
	for i := range count {
		depth, vars := 1+i%4, 1+i%5
		a, b := random(r, depth, vars), random(r, depth, vars)
		if i%3 == 0 {
			a, b = str("f", a, random(r, depth, vars), b), str("f", random(r, depth, vars), b, a)
		}
		each(a, b)
	}
}

// P4.1: Unify answers what the document's words come to, with the same error, and the same variables bound.
func TestUnifyAsWritten(t *testing.T) {
	count := map[api.Errno]int{}
	pairsAt(40000, func(a, b term.Term) {
		p := plain{}
		want := p.unify([][2]term.Term{{a, b}})
		s, e := Unify(a, b)
		count[e]++
		if e != want {
			t.Error(term.Text(a), term.Text(b), e, want)
		}
		if e != api.OK {
			if s != nil {
				t.Error(s)
			}
			return
		}
		if len(s) != len(p) {
			t.Error(term.Text(a), term.Text(b), words(s))
		}
		for i, pair := range s {
			if _, there := p[pair.N]; !there || !term.Same(pair.Term, p.apply(term.Term{N: pair.N})) || i > 0 && s[i-1].N >= pair.N {
				t.Error(term.Text(a), term.Text(b), words(s))
			}
		}
	})
	if count[api.OK] < 3000 || count[api.ErrClash] < 3000 || count[api.ErrCycle] < 1000 {
		t.Error(count)
	}
}

// ground are terms that variables may stand for.
func ground() []term.Term {
	a, b := term.Term{Kind: term.Con, Name: "a"}, term.Term{Kind: term.Con, Name: "b"}
	return []term.Term{a, b, str("f", a), str("f", b), str("g", a), str("f", str("f", a)), str("f", a, b), {Kind: term.Lis, Args: []term.Term{a, b}}, {N: 7}, str("f", term.Term{N: 7}), str("f", term.Term{N: 8}, a)}
}

// P4.2: what Unify finds makes both one; of each other way to make them one, each variable's term is what Unify found for it, with that way put in; and where Unify finds nothing, there is no other way.
func TestMostGeneral(t *testing.T) {
	values := ground()
	others := 0
	pairsAt(2500, func(a, b term.Term) {
		s, e := Unify(a, b)
		if e == api.OK && !term.Same(Apply(s, a), Apply(s, b)) {
			t.Error(term.Text(a), term.Text(b), words(s))
		}
		vars := term.Vars(a, b)
		if len(vars) > 3 {
			return
		}
		way := Subst{}
		var try func(k int)
		try = func(k int) {
			if k < len(vars) {
				for _, x := range values {
					way = append(way[:k], Pair{vars[k], x})
					try(k + 1)
				}
				return
			}
			p := plain{}
			for _, pair := range way {
				p[pair.N] = pair.Term
			}
			if !term.Same(p.apply(a), p.apply(b)) {
				return
			}
			others++
			if e != api.OK {
				t.Fatal(term.Text(a), term.Text(b), e, words(way))
			}
			for _, pair := range s {
				if !term.Same(p.apply(pair.Term), p[pair.N]) {
					t.Fatal(term.Text(a), term.Text(b), words(s), words(way))
				}
			}
		}
		try(0)
	})
	if others < 1000 {
		t.Error(others)
	}
}

// P4.1: Apply puts in what is bound, and in that likewise, in any Subst in which this ends.
func TestApply(t *testing.T) {
	for _, c := range []struct{ s, t, want string }{
		{"", "f(X0,[a|X1])", "f(X0,[a|X1])"}, {"0 a", "X0", "a"}, {"0 a", "X1", "X1"}, {"0 a", "f(X0,X1,X0)", "f(a,X1,a)"}, {"0 a", "b", "b"}, {"0 X1", "X0", "X1"}, {"0 X1", "X1", "X1"},
		{"0 X1;1 X2;2 a", "f(X0,X1,X2,X3)", "f(a,a,a,X3)"}, {"0 f(X2);1 X0;2 [X3|X3]", "[X1|X2]", "[f([X3|X3])|[X3|X3]]"}, {"5 X999;999 X998", "f(X5,g(X999),X0)", "f(X998,g(X998),X0)"},
	} {
		var s Subst
		for _, p := range strings.Split(c.s, ";") {
			if n, x, ok := strings.Cut(p, " "); ok {
				pair := Pair{Term: parse(t, x)}
				fmt.Sscan(n, &pair.N)
				s = append(s, pair)
			}
		}
		if got := term.Text(Apply(s, parse(t, c.t))); got != c.want {
			t.Error(c.s, c.t, got)
		}
	}
	r := rand.New(rand.NewSource(4))
	for range 5000 {
		// Each variable stands for greater ones alone, so that Apply ends.
		p, s := plain{}, Subst{}
		for n := range 5 {
			if r.Intn(2) == 0 {
				x := Rename(n+1, random(r, 2, 3))[0]
				p[n], s = x, append(s, Pair{n, x})
			}
		}
		x := random(r, 3, 7)
		if got := Apply(s, x); !term.Same(got, p.apply(x)) {
			t.Error(words(s), term.Text(x), term.Text(got))
		}
	}
	if x := Apply(nil, parse(t, "f(X0)")); term.Text(x) != "f(X0)" {
		t.Error(x)
	}
	if x := Apply(Subst{}, parse(t, "f(X0)")); term.Text(x) != "f(X0)" {
		t.Error(x)
	}
}

// P4.1: Alike: variables' numbers may be others, but none may become two, nor two one.
func TestAlike(t *testing.T) {
	list := func(s string) []term.Term {
		var l []term.Term
		for _, w := range strings.Fields(s) {
			l = append(l, parse(t, w))
		}
		return l
	}
	for _, c := range []struct {
		a, b string
		want bool
	}{
		{"", "", true}, {"X0", "", false}, {"", "X0", false}, {"X0", "X999", true}, {"X0 X1", "X1 X0", true}, {"X0 X1", "X0 X0", false}, {"X0 X0", "X0 X1", false}, {"X0 X0", "X5 X5", true}, {"a", "a", true}, {"a", "b", false}, {"a", "X0", false}, {"X0", "a", false},
		{"f(X3,X1,X3)", "f(X0,X7,X0)", true}, {"f(X3,X1,X3)", "f(X0,X0,X0)", false}, {"f(X0,X0,X0)", "f(X3,X1,X3)", false}, {"f(X0)", "f(X0,X1)", false}, {"f(X0,X1)", "f(X0)", false}, {"f(X0)", "g(X0)", false}, {"f(X0,X1)", "[X0|X1]", false}, {"[X0|X1]", "[X9|X4]", true}, {"[X0|X1]", "[X9|X9]", false}, {"a", "a(a)", false},
		{"f(X0,X1) X1", "f(X1,X0) X0", true}, {"f(X0,X1) X1", "f(X1,X0) X1", false}, {"X0 X1 X0", "X1 X2 X2", false}, {"X0 X1 X2", "X1 X2 X0", true}, {"X0 X1 X2", "X1 X0 X0", false}, {"a b", "a c", false}, {"X0 a", "X0", false}, {"[f(X1)|X2] g(X2)", "[f(X2)|X1] g(X1)", true},
	} {
		if Alike(list(c.a), list(c.b)) != c.want {
			t.Error(c.a, "/", c.b)
		}
	}
	if !Alike(nil, []term.Term{}) {
		t.Error("nil and empty lists are one")
	}
	r := rand.New(rand.NewSource(5))
	for range 3000 {
		l := []term.Term{random(r, 2, 3), random(r, 2, 3)}
		other := []term.Term{random(r, 2, 3), random(r, 2, 3)}
		// Both numbered by their first places are the same just where they are Alike.
		same := reflect.DeepEqual(textsOf(Rename(0, l...)), textsOf(Rename(0, other...)))
		if Alike(l, other) != same || !Alike(l, Rename(r.Intn(900), l...)) || !Alike(Rename(500, l...), l) {
			t.Error(textsOf(l), textsOf(other))
		}
	}
}

func textsOf(l []term.Term) []string {
	var out []string
	for _, t := range l {
		out = append(out, term.Text(t))
	}
	return out
}

// P4.1: Rename: by the first places over the whole row.
func TestRename(t *testing.T) {
	l := []term.Term{parse(t, "f(X3,[X1|X3])"), parse(t, "X0"), parse(t, "a"), parse(t, "g(X1,X0,X999)")}
	for _, c := range []struct {
		from int
		want string
	}{
		{0, "f(X0,[X1|X0]) X2 a g(X1,X2,X3)"}, {5, "f(X5,[X6|X5]) X7 a g(X6,X7,X8)"}, {996, "f(X996,[X997|X996]) X998 a g(X997,X998,X999)"}, {1, "f(X1,[X2|X1]) X3 a g(X2,X3,X4)"},
	} {
		if s := strings.Join(textsOf(Rename(c.from, l...)), " "); s != c.want {
			t.Error(c.from, s)
		}
	}
	if len(Rename(3)) != 0 || len(Rename(3, l[2])) != 1 {
		t.Error("no variables")
	}
	for _, from := range []int{-1, 997, 1000, math.MinInt, math.MaxInt} {
		Rename(from, l...)
	}
}

// P1, P4.1: what is bound may be far greater than what was given: a pair that can't be made one is told nonetheless.
func TestSharedParts(t *testing.T) {
	con := func(s string) term.Term { return term.Term{Kind: term.Con, Name: s} }
	// X0 and X50 stand for terms of 2^49 parts each, which are made one ahead of the clash.
	a, b := con("a"), con("b")
	a, b = str("f", term.Term{N: 0}, a), str("f", term.Term{N: 50}, b)
	twice := func(n int) term.Term { return str("g", term.Term{N: n}, term.Term{N: n}) }
	for k := range 49 {
		a = str("h", term.Term{N: k}, term.Term{N: 50 + k}, a)
		b = str("h", twice(k+1), twice(51+k), b)
	}
	if s, e := Unify(a, b); e != api.ErrClash || s != nil {
		t.Error(e)
	}
	if s, e := Unify(str("f", a, term.Term{N: 200}), str("f", a, str("f", term.Term{N: 200}))); e != api.ErrCycle || s != nil {
		t.Error(e)
	}
}

// P1: terms that lie deep in one another, and such as become deeper than what was given.
func TestDeep(t *testing.T) {
	deep := func(n int, x term.Term) term.Term {
		for range n {
			x = str("f", x)
		}
		return x
	}
	const most = 1<<16 - 2
	x := deep(most, term.Term{N: 0})
	s, e := Unify(x, deep(most, term.Term{Kind: term.Con, Name: "a"}))
	if e != api.OK || words(s) != "X0 a" || term.Size(Apply(s, x)) != most+1 || !Alike([]term.Term{x}, Rename(7, x)) {
		t.Error(e)
	}
	if _, e := Unify(x, deep(most+1, term.Term{N: 0})); e != api.ErrCycle {
		t.Error(e)
	}
	a, b := str("e", term.Term{N: 99}), str("e", term.Term{Kind: term.Con, Name: "a"})
	for k := range 8 {
		a, b = str("g", term.Term{N: k}, a), str("g", deep(most, term.Term{N: k + 1}), b)
	}
	s, e = Unify(a, b)
	if e != api.OK || len(s) != 9 || term.Size(s[0].Term) != 8*most+1 {
		t.Error(e, len(s))
	}
}

// P1: of terms that aren't Right all calls end.
func TestWrongTermsEnd(t *testing.T) {
	l := []term.Term{{N: -1}, {N: math.MaxInt}, {N: math.MinInt}, {Name: "a", Args: []term.Term{{N: 1}}}, {Kind: 1, Args: []term.Term{{N: 1}, {N: 2}}}, {Kind: 2}, {Kind: 3}, {Kind: 3, Args: []term.Term{{N: 0}}}, {Kind: -1}, {Kind: 9, N: 4, Args: []term.Term{{N: 0}, {Kind: 9}}}, {}, str("f", term.Term{N: 1}), {Kind: 1, Name: "a"}}
	for _, a := range l {
		for _, b := range l {
			s, e := Unify(a, b)
			if e == api.OK {
				Apply(s, a)
				Apply(s, str("f", a, b))
			}
			Apply(Subst{{N: 5, Term: a}}, str("f", b, term.Term{N: 5}))
			Alike([]term.Term{a, b}, []term.Term{b, a})
			Rename(3, a, b)
		}
	}
}

// spared is t with spare room behind each row, filled.
func spared(t term.Term) term.Term {
	u := t
	u.Args = make([]term.Term, 0, len(t.Args)+2)
	for _, part := range t.Args {
		u.Args = append(u.Args, spared(part))
	}
	full := u.Args[:cap(u.Args)]
	for i := len(u.Args); i < len(full); i++ {
		full[i].Name = "spare"
	}
	return u
}

// whole is t with its rows' spare room.
func whole(t term.Term) term.Term {
	u := t
	u.Args = nil
	for _, part := range t.Args[:cap(t.Args)] {
		u.Args = append(u.Args, whole(part))
	}
	return u
}

// P4.3: what is handed in isn't changed, its spare room neither.
func TestNothingChanged(t *testing.T) {
	pairsAt(500, func(a, b term.Term) {
		a, b = spared(a), spared(b)
		a0, b0 := whole(a), whole(b)
		l := append(make([]term.Term, 0, 3), a, b)
		l[:3][2].Name = "spare"
		s, e := Unify(a, b)
		if e == api.OK {
			in := append(make(Subst, 0, len(s)+1), s...)
			in[:len(s)+1][len(s)].N = -7
			before := words(s)
			Apply(in, a)
			if words(in) != before || in[:len(s)+1][len(s)].N != -7 {
				t.Error(words(in), before)
			}
		}
		Alike(l, l)
		Rename(100, l...)
		if !reflect.DeepEqual(whole(a), a0) || !reflect.DeepEqual(whole(b), b0) || l[:3][2].Name != "spare" {
			t.Error(term.Text(a), term.Text(b))
		}
	})
}

// spoil changes all of t that others could share.
func spoil(t *term.Term) {
	for i := range t.Args {
		spoil(&t.Args[i])
		t.Args[i] = term.Term{Kind: 7, Name: "spoilt"}
	}
	_ = append(t.Args, term.Term{Kind: 8, Name: "spoilt"})
}

// P4.3: answers are new memory: they share nothing with what was handed in, nor their parts with one another.
func TestNewMemory(t *testing.T) {
	pairsAt(3000, func(a, b term.Term) {
		a0, b0 := copied(a), copied(b)
		s, e := Unify(a, b)
		if e != api.OK {
			return
		}
		s0 := words(s)
		x, r := Apply(s, a), Rename(100, a, b)
		x0, r0 := term.Text(x), textsOf(r)
		spoil(&x)
		spoil(&r[0])
		if words(s) != s0 || term.Text(r[1]) != r0[1] || !reflect.DeepEqual(a, a0) || !reflect.DeepEqual(b, b0) {
			t.Error(s0, x0, r0)
		}
		for i := range s {
			rest := words(s[i+1:])
			spoil(&s[i].Term)
			if words(s[i+1:]) != rest {
				t.Error(s0)
			}
		}
		if !reflect.DeepEqual(a, a0) || !reflect.DeepEqual(b, b0) {
			t.Error(s0)
		}
	})
	// A variable that stands twice is written out twice.
	x := Apply(Subst{{N: 0, Term: parse(t, "g(a)")}}, parse(t, "f(X0,X0)"))
	x.Args[0].Args[0].Name = "z"
	if term.Text(x) != "f(g(z),g(a))" {
		t.Error(term.Text(x))
	}
}
