package term

import (
	"fmt"
	"math"
	"math/rand"
	"reflect"
	"slices"
	"strings"
	"testing"

	"resolvent/api"
)

// The limits stand here as the document has them, so that a change of one shows.
const (
	maxArity = 8
	maxName  = 32
	varLimit = 999
	textMax  = 10000
	nesting  = 1 << 16
)

func v(n int) Term { return Term{Kind: 0, N: n} }

func con(name string) Term { return Term{Kind: 1, Name: name} }

func str(name string, args ...Term) Term { return Term{Kind: 2, Name: name, Args: args} }

func lis(first, rest Term) Term { return Term{Kind: 3, Args: []Term{first, rest}} }

// many is a list of n terms.
func many(n int, t Term) []Term { return slices.Repeat([]Term{t}, n) }

// nested is t within so many more.
func nested(n int, t Term) Term {
	for range n {
		t = str("f", t)
	}
	return t
}

// random is a Right term with at most so many levels.
func random(r *rand.Rand, depth int) Term {
	k := r.Intn(4)
	if depth == 0 {
		k = r.Intn(2)
	}
	names := []string{"a", "b", "f", "x0", "a1b2", strings.Repeat("z", maxName)}
	name := names[r.Intn(len(names))]
	switch k {
	case 0:
		return v([]int{0, 1, 9, 10, 99, 100, 998, 999, r.Intn(1000)}[r.Intn(9)])
	case 1:
		return con(name)
	case 2:
		t := str(name)
		for range 1 + r.Intn(maxArity) {
			t.Args = append(t.Args, random(r, depth-1))
		}
		return t
	}
	return lis(random(r, depth-1), random(r, depth-1))
}

// copied is t in new memory.
func copied(t Term) Term {
	u := t
	u.Args = nil
	for _, part := range t.Args {
		u.Args = append(u.Args, copied(part))
	}
	return u
}

// P3.1: the kinds' numbers are those of the document.
func TestKinds(t *testing.T) {
	if Var != 0 || Con != 1 || Str != 2 || Lis != 3 {
		t.Error(Var, Con, Str, Lis)
	}
}

// P3.1: the document's example.
func TestExample(t *testing.T) {
	x := str("f", v(1), lis(con("a"), v(0)))
	if l := Vars(x); !slices.Equal(l, []int{1, 0}) || Size(x) != 5 || Text(x) != "f(X1,[a|X0])" {
		t.Error(l, Size(x), Text(x))
	}
}

// P3.1: what a Name is: each byte, ahead and behind, and the lengths.
func TestName(t *testing.T) {
	for c := range 256 {
		b := string([]byte{byte(c)})
		letter := c >= 'a' && c <= 'z'
		digit := c >= '0' && c <= '9'
		if Name(b) != letter || Name(b+"a") != letter || Name("a"+b) != (letter || digit) || Name("ab"+b+"c") != (letter || digit) {
			t.Error(c)
		}
	}
	for n := range 100 {
		if Name(strings.Repeat("a", n)) != (n >= 1 && n <= maxName) {
			t.Error(n)
		}
	}
	for _, s := range []string{"ä", "aä", "Xa", "a b", "a\n", "a\x00", strings.Repeat("é", 16)} {
		if Name(s) {
			t.Error(s)
		}
	}
}

func rightTerms() []Term {
	long := strings.Repeat("a", maxName)
	return []Term{
		v(0), v(1), v(varLimit), con("a"), con(long), con("z9"),
		{Kind: 0, Args: []Term{}}, {Kind: 1, Name: "a", Args: []Term{}},
		str("a", con("a")), str(long, many(maxArity, v(varLimit))...), str("f", str("f", v(0)), lis(v(0), v(0))),
		lis(v(0), con("a")), lis(lis(v(1), v(2)), str("f", v(0))),
	}
}

func wrongTerms() []Term {
	long := strings.Repeat("a", maxName+1)
	return []Term{
		v(-1), v(varLimit + 1), v(math.MinInt), v(math.MaxInt), {Kind: 0, Name: "a"}, {Kind: 0, Args: []Term{v(0)}},
		con(""), con(long), con("A"), con("1"), con("a b"), {Kind: 1, Name: "a", N: 1}, {Kind: 1, Name: "a", N: -1}, {Kind: 1, Name: "a", Args: []Term{v(0)}},
		str("a"), str("", v(0)), str(long, v(0)), str("a", many(maxArity+1, v(0))...), {Kind: 2, Name: "a", N: 1, Args: []Term{v(0)}},
		{Kind: 3}, {Kind: 3, Args: many(1, v(0))}, {Kind: 3, Args: many(3, v(0))}, {Kind: 3, Name: "a", Args: many(2, v(0))}, {Kind: 3, N: 1, Args: many(2, v(0))},
		{Kind: -1}, {Kind: 4}, {Kind: 4, Name: "a"}, {Kind: 4, Args: many(2, v(0))}, {Kind: math.MinInt}, {Kind: 1 << 32}, {Kind: 1<<32 + 1, Name: "a"},
	}
}

// P3.1: what a Right term is; a part that isn't Right makes the whole not Right, in each place.
func TestRight(t *testing.T) {
	for i, x := range rightTerms() {
		for n := range 9 {
			if !Right(nested(n, x)) || !Right(lis(v(0), lis(x, v(1)))) {
				t.Error(i, n)
			}
		}
	}
	for i, x := range wrongTerms() {
		if Right(x) {
			t.Error(i, x)
		}
		for n := 1; n <= maxArity; n++ {
			for at := range n {
				whole := str("f", many(n, con("a"))...)
				whole.Args[at] = x
				if Right(whole) || Right(nested(3, whole)) {
					t.Error(i, n, at)
				}
			}
		}
		if Right(lis(x, v(0))) || Right(lis(v(0), x)) || Right(lis(v(0), lis(v(0), x))) {
			t.Error(i, x)
		}
	}
}

// P3.1: Same: of all terms of a row, each is the same as itself alone.
func TestSame(t *testing.T) {
	l := []Term{
		v(0), v(1), v(10), con("a"), con("b"), con("aa"), str("a", v(0)), str("a", v(1)), str("b", v(0)), str("a", v(0), v(0)), str("a", v(0), v(1)), str("a", v(1), v(0)),
		lis(v(0), v(0)), lis(v(0), v(1)), lis(v(1), v(0)), str("a", con("a")), str("a", lis(v(0), v(0))), str("a", str("a", v(0))), str("a", str("a", v(1))), nested(9, v(0)), nested(9, v(1)), nested(10, v(0)),
	}
	for i, a := range l {
		for k, b := range l {
			if Same(a, copied(b)) != (i == k) {
				t.Error(Text(a), Text(b))
			}
		}
	}
	if !Same(Term{Kind: 1, Name: "a", Args: []Term{}}, con("a")) {
		t.Error("nil and empty lists are one")
	}
}

// sizeOf counts the parts of a text: each Var and each name begins behind another byte, each list has a bracket.
func sizeOf(s string) int {
	n, inside := 0, false
	for _, c := range s {
		word := strings.ContainsRune("abcdefghijklmnopqrstuvwxyz0123456789X", c)
		if word && !inside || c == '[' {
			n++
		}
		inside = word
	}
	return n
}

// P3.1: Size, of ordinary terms, and of wide and deep ones.
func TestSize(t *testing.T) {
	r := rand.New(rand.NewSource(1))
	for range 2000 {
		x := random(r, 4)
		if Size(x) != sizeOf(Text(x)) {
			t.Error(Text(x), Size(x))
		}
	}
	if Size(v(0)) != 1 || Size(con("a")) != 1 || Size(str("f", v(0), v(0))) != 3 || Size(lis(v(0), v(0))) != 3 || Size(nested(500, v(0))) != 501 {
		t.Error("size")
	}
}

// P3.1: Vars, by their first places, each once, over all terms of the row.
func TestVars(t *testing.T) {
	for i, c := range []struct {
		l    []Term
		want []int
	}{
		{nil, nil},
		{[]Term{}, nil},
		{[]Term{con("a")}, nil},
		{[]Term{str("f", con("a"), lis(con("b"), con("c")))}, nil},
		{[]Term{v(0)}, []int{0}},
		{[]Term{v(7), v(7), v(0), v(7)}, []int{7, 0}},
		{[]Term{str("f", v(3), v(1), v(3)), v(2), lis(v(1), v(0))}, []int{3, 1, 2, 0}},
		{[]Term{str("f", lis(str("g", v(varLimit)), v(0)), v(5)), v(4)}, []int{varLimit, 0, 5, 4}},
		{[]Term{con("a"), nested(100, v(9)), lis(nested(3, v(8)), v(9))}, []int{9, 8}},
	} {
		if l := Vars(c.l...); !slices.Equal(l, c.want) {
			t.Error(i, l)
		}
	}
	if l := Vars(); len(l) != 0 {
		t.Error(l)
	}
	var all []Term
	var want []int
	for n := varLimit; n >= 0; n-- {
		all, want = append(all, v(n), nested(2, v(n)), v(varLimit)), append(want, n)
	}
	if !slices.Equal(Vars(all...), want) {
		t.Error("all numbers")
	}
}

// P3.1: Text of each kind.
func TestText(t *testing.T) {
	for _, c := range []struct {
		t    Term
		want string
	}{
		{v(0), "X0"}, {v(10), "X10"}, {v(varLimit), "X999"}, {con("a"), "a"}, {con("a0"), "a0"}, {str("f", v(0)), "f(X0)"}, {str("f", con("a"), con("b"), con("c")), "f(a,b,c)"},
		{lis(v(0), v(1)), "[X0|X1]"}, {lis(lis(con("a"), con("b")), lis(con("c"), con("nil"))), "[[a|b]|[c|nil]]"}, {str("f", lis(con("a"), str("g", v(3), v(2))), v(1)), "f([a|g(X3,X2)],X1)"},
		{str("x", many(maxArity, con("x1"))...), "x(x1,x1,x1,x1,x1,x1,x1,x1)"},
	} {
		if s := Text(c.t); s != c.want {
			t.Error(s, c.want)
		}
	}
}

// P3.1, P3.2: texts that are no Right term's.
func TestParseWrong(t *testing.T) {
	long := strings.Repeat("a", maxName+1)
	l := []string{
		"", "X", "X01", "X00", "X000", "X1000", "X-1", "X+1", "X-0", "X1a", "Xa", "X 1", "X1 ", " X1", "X99999999999999999999", "X18446744073709551616", "X0x1", "X1_0", "x(X)", "XX1", "X1(a)",
		"A", "1", "1a", "aB", "a b", "a_b", "a-b", long, long + "(a)", "ä", "a\n", "\x00", "a\x00", " ", ",", "(", ")", "|", "[", "]",
		"f()", "f(", "f(a", "f(a,", "f(a,)", "f(,a)", "f(a,,b)", "f(a))", "f(a)b", "f(a)(b)", "f (a)", "f( a)", "f(a )", "f(a, b)", "f(a|b)", "f[a]", "(a)", "F(a)", "f(" + strings.Repeat("a,", maxArity) + "a)", "f(f(" + strings.Repeat("a,", maxArity) + "a))",
		"[]", "[a]", "[a|]", "[|a]", "[a|b", "[a,b]", "[a|b|c]", "[a|b]]", "[[a|b]", "[a |b]", "[a|b)", "[a)", "a|b", "[a|b]c", "[a|b](c)", "[a|f()]", "[X01|a]", "f([a])", "a,b", "X1,X2",
		strings.Repeat("f(", 3000), strings.Repeat("[", 9999), strings.Repeat("f(", 3000) + "a", strings.Repeat(")", 10000), strings.Repeat("[a|", 3000), strings.Repeat("X", 10000), "X" + strings.Repeat("9", 9999), "X" + strings.Repeat("0", 9999),
	}
	for _, s := range l {
		if x, e := Parse(s); e != api.ErrWord || !reflect.DeepEqual(x, Term{}) {
			t.Errorf("%.40q: %v", s, e)
		}
	}
}

// short are the texts of all Right terms of at most so many bytes, made of the names and numbers given.
func short(most int, words []string) map[string]bool {
	byLength := make([][]string, most+1)
	all := map[string]bool{}
	// A row is texts with commas between, so many of them.
	rows := make([][][]string, most+1)
	for n := 1; n <= most; n++ {
		add := func(s string) {
			byLength[n] = append(byLength[n], s)
			all[s] = true
		}
		for _, w := range words {
			if len(w) == n {
				add(w)
			}
			if inner := n - len(w) - 2; w[0] != 'X' && inner >= 1 {
				for k := range rows[inner] {
					for _, row := range rows[inner][k] {
						add(w + "(" + row + ")")
					}
				}
			}
		}
		for a := 1; a < n-3; a++ {
			if b := n - 3 - a; b >= 1 {
				for _, x := range byLength[a] {
					for _, y := range byLength[b] {
						add("[" + x + "|" + y + "]")
					}
				}
			}
		}
		rows[n] = make([][]string, maxArity+1)
		rows[n][1] = byLength[n]
		for k := 2; k <= maxArity; k++ {
			for a := 1; a < n-1; a++ {
				for _, x := range byLength[a] {
					for _, y := range rows[n-1-a][k-1] {
						rows[n][k] = append(rows[n][k], x+","+y)
					}
				}
			}
		}
	}
	return all
}

// P3.2: of all texts of few bytes, just the Right terms' are read, and each is its term's Text.
func TestParseAllShort(t *testing.T) {
	const bytes, most = "X0a(),[|]", 7
	var words []string
	var grow func(s string)
	grow = func(s string) {
		if len(s) > most {
			return
		}
		if s != "" {
			words = append(words, s)
		}
		grow(s + "0")
		grow(s + "a")
	}
	grow("a")
	want := short(most, append(words, "X0"))
	count := 0
	var try func(s string)
	try = func(s string) {
		x, e := Parse(s)
		if (e == api.OK) != want[s] || e != api.OK && e != api.ErrWord {
			t.Error(s, e)
		}
		if e == api.OK {
			count++
			if !Right(x) || Text(x) != s {
				t.Error(s, x)
			}
		} else if !reflect.DeepEqual(x, Term{}) {
			t.Error(s, x)
		}
		for i := 0; len(s) < most && i < len(bytes); i++ {
			try(s + bytes[i:i+1])
		}
	}
	try("")
	if count != len(want) || count < 200 {
		t.Error(count, len(want))
	}
}

// P3.2: each variable's number, and those around them.
func TestParseNumbers(t *testing.T) {
	for n := range 1200 {
		x, e := Parse(fmt.Sprint("X", n))
		if n <= varLimit && (e != api.OK || !reflect.DeepEqual(x, v(n))) || n > varLimit && e != api.ErrWord {
			t.Error(n, x, e)
		}
		for _, zeros := range []string{"0", "00", "000"} {
			if _, e := Parse(fmt.Sprint("f(X", zeros, n, ")")); e != api.ErrWord {
				t.Error(zeros, n)
			}
		}
	}
}

// P3.2: what is written is read as it was.
func TestRoundTrip(t *testing.T) {
	r := rand.New(rand.NewSource(2))
	l := rightTerms()
	for range 3000 {
		l = append(l, random(r, 3))
	}
	for _, x := range l {
		s := Text(x)
		if len(s) > textMax {
			continue
		}
		y, e := Parse(s)
		if e != api.OK || !Same(x, y) || Text(y) != s || !Right(y) {
			t.Errorf("%.80s %v", s, e)
		}
	}
}

// P3.2: texts just within the limits, and just beyond them.
func TestParseLimits(t *testing.T) {
	name := strings.Repeat("n", maxName)
	wide := func(n int) string { return "f(" + strings.Repeat("a,", n-1) + "a)" }
	deep := func(n int, s string) string { return strings.Repeat("f(", n) + s + strings.Repeat(")", n) }
	for _, c := range []struct {
		s    string
		want api.Errno
	}{
		{name, api.OK}, {name + "n", api.ErrWord}, {name + "(" + name + ")", api.OK}, {name + "(" + name + "n)", api.ErrWord}, {name + "n(" + name + ")", api.ErrWord},
		{wide(maxArity), api.OK}, {wide(maxArity + 1), api.ErrWord}, {"X999", api.OK}, {"X1000", api.ErrWord},
		{deep(3333, "a"), api.OK}, {deep(3332, "aaaa"), api.OK}, {deep(3333, "aa"), api.ErrWord}, {deep(3334, "a"), api.ErrWord}, {deep(3332, "aaaaa"), api.ErrWord},
		{strings.Repeat("[a|", 1999) + "bbbb" + strings.Repeat("]", 1999), api.OK}, {strings.Repeat("[a|", 2499) + "bbbb" + strings.Repeat("]", 2499), api.OK}, {strings.Repeat("[a|", 2499) + "bbbbb" + strings.Repeat("]", 2499), api.ErrWord},
		{strings.Repeat("a", 1<<20), api.ErrWord}, {deep(1<<16, "a"), api.ErrWord},
	} {
		x, e := Parse(c.s)
		if e != c.want {
			t.Errorf("%.40s (%d): %v", c.s, len(c.s), e)
		}
		if e == api.OK && Text(x) != c.s {
			t.Errorf("%.40s", Text(x))
		}
	}
	if len(deep(3333, "a")) != textMax {
		t.Error(len(deep(3333, "a")))
	}
}

// P1, P3.1: terms that lie deep in one another are gone through.
func TestDeep(t *testing.T) {
	x := nested(nesting, v(5))
	y := v(5)
	for range nesting {
		y = lis(con("a"), y)
	}
	if !Right(x) || !Same(x, copied(x)) || Size(x) != nesting+1 || !slices.Equal(Vars(x, y), []int{5}) || len(Text(x)) != 3*nesting+2 {
		t.Error("names")
	}
	if !Right(y) || Same(x, y) || Same(y, nested(1, y)) || Size(y) != 2*nesting+1 || len(Text(y)) != 4*nesting+2 {
		t.Error("lists")
	}
}

// P1: of terms that aren't Right all calls end.
func TestWrongTermsEnd(t *testing.T) {
	for _, x := range wrongTerms() {
		for _, y := range []Term{x, lis(x, x), str("f", x), {Kind: 1, Args: []Term{x}}, {Kind: 0, Args: []Term{x}}, {Kind: 9, Args: []Term{x, x, x}}} {
			Right(y)
			Same(y, x)
			Same(x, y)
			Same(y, y)
			Size(y)
			Vars(y, x, y)
			Text(y)
		}
	}
}

// P3.3: what is handed in isn't changed, its spare room neither.
func TestNothingChanged(t *testing.T) {
	spare := make([]Term, 2, 6)
	spare[0], spare[1] = v(3), str("g", v(2), v(3))
	row := spare[:6]
	for i := 2; i < 6; i++ {
		row[i] = con("spare")
	}
	x := Term{Kind: 2, Name: "f", Args: spare}
	l := append(make([]Term, 0, 4), x, v(1))
	for i := 2; i < 4; i++ {
		l[:4][i] = con("spare")
	}
	before, all := copied(str("f", row...)), copied(str("f", l[:4]...))
	Right(x)
	Same(x, x)
	Size(x)
	Vars(l...)
	Text(x)
	if !reflect.DeepEqual(before, str("f", row...)) || !reflect.DeepEqual(all, str("f", l[:4]...)) {
		t.Error(row, l)
	}
}

// P3.3: answers are new memory: what is changed in one shows in no other.
func TestNewMemory(t *testing.T) {
	x := str("f", v(1), v(2))
	a, b := Vars(x), Vars(x)
	a[0] = 7
	if b[0] != 1 || x.Args[0].N != 1 || Vars(x)[0] != 1 {
		t.Error(b, x)
	}
	a = append(a[:1], 8, 9)
	if c := Vars(x); !slices.Equal(c, []int{1, 2}) {
		t.Error(c, a)
	}
	p, _ := Parse("f(g(a,b),g(a,b),[c|d])")
	q, _ := Parse("f(g(a,b),g(a,b),[c|d])")
	for _, part := range []*Term{&p.Args[0].Args[1], &p.Args[2].Args[0], &p.Args[1]} {
		part.Name = "z"
	}
	p.Args[0].Args = append(p.Args[0].Args, con("more"))
	p.Args = append(p.Args, con("more"))
	if s := Text(p); s != "f(g(a,z,more),z(a,b),[z|d],more)" || Text(q) != "f(g(a,b),g(a,b),[c|d])" {
		t.Error(s, Text(q))
	}
}
