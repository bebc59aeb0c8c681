package comp_test

import (
	"slices"
	"strconv"
	"strings"
	"testing"

	"resolvent/api"
	"resolvent/comp"
	"resolvent/obj"
	"resolvent/term"
)

// holdFault holds what Lines says is wrong, and that Program says the same.
func holdFault(t *testing.T, l []comp.Clause, want api.Errno, wantAt int) {
	t.Helper()
	lines, e, at := comp.Lines(l...)
	if e != want || at != wantAt || len(lines) != 0 {
		t.Error(e.Word(), at, "should be", want.Word(), wantAt)
	}
	o, e, at := comp.Program(l...)
	if e != want || at != wantAt || !obj.Same(o, obj.Object{}) {
		t.Error(o, e.Word(), at, "should be", want.Word(), wantAt)
	}
}

// nest is a term with so many Str or Lis beneath its top, one beneath the other.
func nest(n int, list bool) string {
	s := "a"
	for range n + 1 {
		if list {
			s = "[b|" + s + "]"
		} else {
			s = "f(" + s + ")"
		}
	}
	return s
}

// wide is another one, of as many parts side by side as there may be.
func wide(n int) string {
	if n == 0 {
		return "f(X0)"
	}
	sides := min(n, 8) - 1
	return "f(" + strings.Repeat("g(a),", sides) + nest(n-sides-1, true) + ")"
}

// P14.1: a term may have 8 Str and Lis beneath its top, and no more; each of a goal's Args has its own.
func TestTooGreat(t *testing.T) {
	q := made(t, "q(a,b)")
	for n := range 14 {
		want, at := api.OK, -1
		if n > 8 {
			want, at = api.ErrFull, 1
		}
		for _, s := range []string{nest(n, false), nest(n, true), wide(n)} {
			for _, l := range [][]comp.Clause{
				{q, made(t, "p("+s+")")},
				{q, made(t, "p(a,X0,b,"+s+")")},
				{q, made(t, "p("+nest(8, true)+","+s+","+nest(8, false)+")")},
				{q, made(t, "p", "q("+s+",a)")},
				{q, made(t, "p", "q(a,b)", "cut", "q(X1,"+s+")", "q(a,b)")},
				{q, made(t, "p", "fail", "q(X1,"+s+")")},
				{q, made(t, "p("+nest(8, true)+")", "q("+nest(8, false)+","+s+")")},
			} {
				if want == api.OK {
					if _, e, at := comp.Lines(l...); e != api.OK || at != -1 {
						t.Error(n, s, e.Word(), at)
					}
					continue
				}
				holdFault(t, l, want, at)
			}
		}
	}
}

// P14.1: each goal must be a Head's, but cut and fail, which are Con.
func TestUnknown(t *testing.T) {
	for row, at := range map[string]int{
		"p :- q.":                   0,
		"p.; p :- q.":               1,
		"p.; q :- p, p, r.; s":      1,
		"p :- p(a).":                0,
		"p(a) :- p.":                0,
		"p(a) :- p(a,b).; p(a,b,c)": 0,
		"p :- cut(a).":              0,
		"p :- fail(a,b).":           0,
		"p.; p :- fail, q.":         1,
		"p.; p :- cut, p, fail, q.": 1,
		"p :- a, b, c.; b :- d.":    0,
		"p(q).; p(a) :- p(q), q.":   1,
	} {
		row = strings.TrimSuffix(row, ".") + "."
		holdFault(t, clauses(t, row), api.ErrUnknown, at)
	}
	for _, row := range []string{"p :- q.; q.", "q.; p :- q.", "p :- p.", "p :- cut, fail.", "p(a) :- q, p(f(X0)).; r.; q :- p(a).; q :- r.", "p :- q(a), q.; q(b).; q."} {
		if _, e, at := comp.Lines(clauses(t, row)...); e != api.OK || at != -1 {
			t.Error(row, e.Word(), at)
		}
	}
}

// P14.1: of several errors the one named first counts, wherever it stands; of one error the first clause.
func TestFaultOrder(t *testing.T) {
	form := made(t, "cut")
	great := made(t, "p(a)", "p("+nest(9, false)+")")
	unknown := made(t, "p(a)", "r(a)")
	right := made(t, "p(a)", "p(b)")
	kinds := []struct {
		c comp.Clause
		e api.Errno
	}{{form, api.ErrForm}, {great, api.ErrFull}, {unknown, api.ErrUnknown}, {right, api.OK}}
	for i, a := range kinds {
		for k, b := range kinds {
			want, at := a.e, 1
			if k < i {
				want, at = b.e, 2
			}
			if want == api.OK {
				continue
			}
			holdFault(t, []comp.Clause{right, a.c, b.c, right, a.c, b.c}, want, at)
			many := slices.Repeat([]comp.Clause{right}, 1001)
			many[1], many[2] = a.c, b.c
			holdFault(t, many, want, at)
			many[1], many[2], many[999], many[1000] = right, right, a.c, b.c
			holdFault(t, many, want, at+998)
		}
	}
	// All of them in one clause.
	all := comp.Clause{Head: form.Head, Body: append(slices.Clone(great.Body), unknown.Body...)}
	holdFault(t, []comp.Clause{right, all}, api.ErrForm, 1)
	all.Head = right.Head
	holdFault(t, []comp.Clause{right, all}, api.ErrFull, 1)
	// A Head that isn't Right, or of a clause with another error, is a Head nevertheless: the error named first is told.
	holdFault(t, []comp.Clause{made(t, "p", "cut(a)"), made(t, "cut(a)")}, api.ErrForm, 1)
	holdFault(t, []comp.Clause{made(t, "p", "q("+nest(9, true)+")"), made(t, "q(a)", "s")}, api.ErrFull, 0)
	holdFault(t, []comp.Clause{made(t, "p", "q(a)"), made(t, "q(a)", "s")}, api.ErrUnknown, 1)
	for _, x := range wrongTerms() {
		holdFault(t, []comp.Clause{right, unknown, great, {Head: right.Head, Body: []term.Term{x}}, form}, api.ErrForm, 3)
	}
}

// instructions is how many there are among lines.
func instructions(lines []string) int {
	n := 0
	for _, line := range lines {
		if line[0] != '@' && !strings.HasPrefix(line, "pred ") {
			n++
		}
	}
	return n
}

// eights are clauses of a predicate with 8 Args, which in all are so many, with a number each.
func eights(t *testing.T, n int, word func(k int) string) []comp.Clause {
	var l []comp.Clause
	for k := 0; k < n; k += 8 {
		var args []string
		for i := range min(n-k, 8) {
			args = append(args, word(k+i))
		}
		l = append(l, made(t, "p("+strings.Join(args, ",")+")"))
	}
	return l
}

// P14.1: Program of what hasn't room: just enough, and one more than there may be.
func TestNoRoom(t *testing.T) {
	atom := func(k int) string { return "a" + strconv.Itoa(k) }
	fun := func(k int) string { return "f" + strconv.Itoa(k) + "(a)" }
	holdProgram(t, facts(t, 64, 64))
	holdFull(t, facts(t, 65, 65))
	holdFull(t, facts(t, 1000, 1000))
	for _, word := range []func(k int) string{atom, fun} {
		o := holdProgram(t, eights(t, 256, word))
		if max(len(o.Names.Atoms), len(o.Names.Funs)) != 256 {
			t.Error(len(o.Names.Atoms), len(o.Names.Funs))
		}
		holdFull(t, eights(t, 257, word))
		holdFull(t, eights(t, 1000, word))
	}
	least, most := 0, 0
	for n := range 300 {
		for more := range 4 {
			l := append(slices.Repeat([]comp.Clause{made(t, "p(a,b)", "fail")}, n), facts(t, more, 1)...)
			lines, _, _ := comp.Lines(l...)
			switch k := instructions(lines); {
			case k > 1024:
				holdFull(t, l)
				least = k
			case k == 1024:
				most = len(holdProgram(t, l).Code)
			case k > 1000 || n%20 == 0:
				holdProgram(t, l)
			}
		}
	}
	if least == 0 || most != 1024 {
		t.Error(least, most)
	}
}

// holdFull holds that Lines tells of clauses of which Program hasn't room.
func holdFull(t *testing.T, l []comp.Clause) {
	t.Helper()
	lines, e, _ := comp.Lines(l...)
	o, e2, at := comp.Program(l...)
	if len(lines) == 0 || e != api.OK || e2 != api.ErrFull || at != -1 || !obj.Same(o, obj.Object{}) {
		t.Error(len(l), e.Word(), e2.Word(), at, o)
	}
}
