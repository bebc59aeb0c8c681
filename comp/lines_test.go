package comp_test

import (
	"slices"
	"strconv"
	"strings"
	"testing"

	"resolvent/api"
	"resolvent/asm"
	"resolvent/comp"
	"resolvent/obj"
	"resolvent/verify"
)

// holdLines holds the lines of clauses, with ", " between, and what Program makes of them, which must be trusted.
func holdLines(t *testing.T, row, want string) {
	t.Helper()
	l, e, at := comp.Lines(clauses(t, row)...)
	if got := strings.Join(l, ", "); got != want || e != api.OK || at != -1 {
		t.Errorf("%s: %v, %v\n%s; should be\n%s", row, e.Word(), at, got, want)
	}
	o := holdProgram(t, clauses(t, row))
	if _, e, at := verify.Check(o); e != api.OK {
		t.Error(row, e.Word(), at)
	}
}

// holdProgram holds that Program is asm.Program of Lines.
func holdProgram(t *testing.T, l []comp.Clause) obj.Object {
	t.Helper()
	lines, _, _ := comp.Lines(l...)
	want, e, at := asm.Program(lines...)
	if e != api.OK {
		t.Fatal(e.Word(), at)
	}
	o, e, at := comp.Program(l...)
	if e != api.OK || at != -1 || !obj.Same(o, want) {
		t.Error(o, e.Word(), at)
	}
	return o
}

type shape struct{ clauses, lines string }

func holdShapes(t *testing.T, l []shape) {
	t.Helper()
	for _, s := range l {
		holdLines(t, s.clauses, s.lines)
	}
}

// P14.1: no clause at all; and clauses without variables, goals, or both.
func TestPlain(t *testing.T) {
	holdShapes(t, []shape{
		{"", ""},
		{"p.", "pred p/0, proceed"},
		{"p(a).; p(b).", "pred p/1, try @0, getcon a X0, proceed, @0, trust, getcon b X0, proceed"},
		{"p(a,b,a).", "pred p/3, getcon a X0, getcon b X1, getcon a X2, proceed"},
		{"p(X7).", "pred p/1, allocate 1, getvar Y0 X0, deallocate, proceed"},
		{"p(X7,X3,X7,X0).", "pred p/4, allocate 3, getvar Y0 X0, getvar Y1 X1, getval Y0 X2, getvar Y2 X3, deallocate, proceed"},
		{"p(X0,X0,X0).", "pred p/3, allocate 1, getvar Y0 X0, getval Y0 X1, getval Y0 X2, deallocate, proceed"},
		{"p :- p.", "pred p/0, allocate 0, deallocate, execute p/0"},
		{"p :- p, p.", "pred p/0, allocate 0, call p/0, deallocate, execute p/0"},
		{"p(a) :- p(b).", "pred p/1, allocate 0, getcon a X0, putcon b X0, deallocate, execute p/1"},
		{"p :- p, p, p, p, p, p, p, p.", "pred p/0, allocate 0, call p/0, call p/0, call p/0, call p/0, call p/0, call p/0, call p/0, deallocate, execute p/0"},
		{"p(" + row(0, 8) + ") :- q(" + row(8, 4) + ").; q(a,b,c,d).", "pred p/8, allocate 12, getvar Y0 X0, getvar Y1 X1, getvar Y2 X2, getvar Y3 X3, getvar Y4 X4, getvar Y5 X5, getvar Y6 X6, getvar Y7 X7, putvar Y8 X0, putvar Y9 X1, putvar Y10 X2, putvar Y11 X3, deallocate, execute q/4, pred q/4, getcon a X0, getcon b X1, getcon c X2, getcon d X3, proceed"},
	})
}

// P14.1: predicates stand in the order of their first clauses, with all theirs; labels go on through all of them.
func TestPredicates(t *testing.T) {
	holdShapes(t, []shape{
		{"p(a).; q(a).", "pred p/1, getcon a X0, proceed, pred q/1, getcon a X0, proceed"},
		{"q(a).; p(a).", "pred q/1, getcon a X0, proceed, pred p/1, getcon a X0, proceed"},
		{"p(a).; p(b).; p(c).", "pred p/1, try @0, getcon a X0, proceed, @0, retry @1, getcon b X0, proceed, @1, trust, getcon c X0, proceed"},
		{"p(a).; p(b).; p(c).; p(d).", "pred p/1, try @0, getcon a X0, proceed, @0, retry @1, getcon b X0, proceed, @1, retry @2, getcon c X0, proceed, @2, trust, getcon d X0, proceed"},
		{"p.; p.", "pred p/0, try @0, proceed, @0, trust, proceed"},
		{"p(a).; q(a).; p(b).; r(a).; q(b).; p(c).", "pred p/1, try @0, getcon a X0, proceed, @0, retry @1, getcon b X0, proceed, @1, trust, getcon c X0, proceed, pred q/1, try @2, getcon a X0, proceed, @2, trust, getcon b X0, proceed, pred r/1, getcon a X0, proceed"},
		// of one name, but with other numbers of Args
		{"p(a).; p.; p(a,b).; p(b).; p.", "pred p/1, try @0, getcon a X0, proceed, @0, trust, getcon b X0, proceed, pred p/0, try @1, proceed, @1, trust, proceed, pred p/2, getcon a X0, getcon b X1, proceed"},
		// goals don't count for the order
		{"p :- r, q.; q.; r.; p.; q.", "pred p/0, try @0, allocate 0, call r/0, deallocate, execute q/0, @0, trust, proceed, pred q/0, try @1, proceed, @1, trust, proceed, pred r/0, proceed"},
		// each clause has its own variables
		{"p(X0,X1).; p(X1,X0) :- p(X0,X1).", "pred p/2, try @0, allocate 2, getvar Y0 X0, getvar Y1 X1, deallocate, proceed, @0, trust, allocate 2, getvar Y0 X0, getvar Y1 X1, putval Y1 X0, putval Y0 X1, deallocate, execute p/2"},
	})
}

// P14.1: got of each kind of term and part.
func TestGot(t *testing.T) {
	holdShapes(t, []shape{
		{"p(f(a)).", "pred p/1, getstr f/1 X0, unicon a, proceed"},
		{"p([a|b]).", "pred p/1, getlis X0, unicon a, unicon b, proceed"},
		{"p(a,f(X0,b,X0),X0).", "pred p/3, allocate 1, getcon a X0, getstr f/3 X1, univar Y0, unicon b, unival Y0, getval Y0 X2, deallocate, proceed"},
		{"p(X0,[X0|X1],[X1|X2]).", "pred p/3, allocate 3, getvar Y0 X0, getlis X1, unival Y0, univar Y1, getlis X2, unival Y1, univar Y2, deallocate, proceed"},
		{"p(f(X0,X1)).", "pred p/1, allocate 2, getstr f/2 X0, univar Y0, univar Y1, deallocate, proceed"},
		{"p(f(a,b,a,b,a,b,a,b)).", "pred p/1, getstr f/8 X0, unicon a, unicon b, unicon a, unicon b, unicon a, unicon b, unicon a, unicon b, proceed"},
		// within
		{"p(f(g(a))).", "pred p/1, getstr f/1 X0, univar X8, getstr g/1 X8, unicon a, proceed"},
		{"p([[a|b]|f(c)]).", "pred p/1, getlis X0, univar X8, univar X9, getlis X8, unicon a, unicon b, getstr f/1 X9, unicon c, proceed"},
		{"p(f(g(X0),X0,[X1|X0],b,X1)).", "pred p/1, allocate 2, getstr f/5 X0, univar X8, univar Y0, univar X9, unicon b, univar Y1, getstr g/1 X8, unival Y0, getlis X9, unival Y1, unival Y0, deallocate, proceed"},
		{"p([X0|[X1|[X0|nil]]]).", "pred p/1, allocate 2, getlis X0, univar Y0, univar X8, getlis X8, univar Y1, univar X9, getlis X9, unival Y0, unicon nil, deallocate, proceed"},
		// what stands deeper comes behind all that stands less deep
		{"p(f(g(h(a),b),k([c|d]),e)).", "pred p/1, getstr f/3 X0, univar X8, univar X9, unicon e, getstr g/2 X8, univar X10, unicon b, getstr k/1 X9, univar X11, getstr h/1 X10, unicon a, getlis X11, unicon c, unicon d, proceed"},
		{"p(f(g(X0,h(X1)),X1,[X1|X0])).", "pred p/1, allocate 2, getstr f/3 X0, univar X8, univar Y1, univar X9, getstr g/2 X8, univar Y0, univar X10, getlis X9, unival Y1, unival Y0, getstr h/1 X10, unival Y1, deallocate, proceed"},
		// each Arg has X8 and so on anew
		{"p(f(g(a)),[b|h(c)],X0,k([X0|X0])).", "pred p/4, allocate 1, getstr f/1 X0, univar X8, getstr g/1 X8, unicon a, getlis X1, unicon b, univar X8, getstr h/1 X8, unicon c, getvar Y0 X2, getstr k/1 X3, univar X8, getlis X8, unival Y0, unival Y0, deallocate, proceed"},
		// up to the last register
		{"p(f(g(a),g(a),g(a),g(a),g(a),g(a),g(a),g(a))).", "pred p/1, getstr f/8 X0, univar X8, univar X9, univar X10, univar X11, univar X12, univar X13, univar X14, univar X15, getstr g/1 X8, unicon a, getstr g/1 X9, unicon a, getstr g/1 X10, unicon a, getstr g/1 X11, unicon a, getstr g/1 X12, unicon a, getstr g/1 X13, unicon a, getstr g/1 X14, unicon a, getstr g/1 X15, unicon a, proceed"},
		{"p(f(f(f(f(f(f(f(f(f(X0)))))))))).", "pred p/1, allocate 1, getstr f/1 X0, univar X8, getstr f/1 X8, univar X9, getstr f/1 X9, univar X10, getstr f/1 X10, univar X11, getstr f/1 X11, univar X12, getstr f/1 X12, univar X13, getstr f/1 X13, univar X14, getstr f/1 X14, univar X15, getstr f/1 X15, univar Y0, deallocate, proceed"},
	})
}

// P14.1: put of each kind of term and part.
func TestPut(t *testing.T) {
	const q1, q4 = "; q(a).", "; q(a,b,c,d)."
	const l1, l4 = ", pred q/1, getcon a X0, proceed", ", pred q/4, getcon a X0, getcon b X1, getcon c X2, getcon d X3, proceed"
	holdShapes(t, []shape{
		{"p :- q(X3)." + q1, "pred p/0, allocate 1, putvar Y0 X0, deallocate, execute q/1" + l1},
		{"p :- q(X3,a,X1,X3)." + q4, "pred p/0, allocate 2, putvar Y0 X0, putcon a X1, putvar Y1 X2, putval Y0 X3, deallocate, execute q/4" + l4},
		{"p(X0) :- q(X1), q(X0), q(X1)." + q1, "pred p/1, allocate 2, getvar Y0 X0, putvar Y1 X0, call q/1, putval Y0 X0, call q/1, putval Y1 X0, deallocate, execute q/1" + l1},
		{"p :- q(f(a,X0,X0))." + q1, "pred p/0, allocate 1, putstr f/3 X0, unicon a, univar Y0, unival Y0, deallocate, execute q/1" + l1},
		{"p(X0) :- q([X0|X1])." + q1, "pred p/1, allocate 2, getvar Y0 X0, putlis X0, unival Y0, univar Y1, deallocate, execute q/1" + l1},
		{"p([X0|a]) :- q(X0,[X1|b],X1,f(X1))." + q4, "pred p/1, allocate 2, getlis X0, univar Y0, unicon a, putval Y0 X0, putlis X1, univar Y1, unicon b, putval Y1 X2, putstr f/1 X3, unival Y1, deallocate, execute q/4" + l4},
		// within
		{"p :- q(f(g(a),b))." + q1, "pred p/0, allocate 0, putstr g/1 X8, unicon a, putstr f/2 X0, unival X8, unicon b, deallocate, execute q/1" + l1},
		{"p :- q([X0|[X1|[X0|nil]]])." + q1, "pred p/0, allocate 2, putlis X8, univar Y0, unicon nil, putlis X9, univar Y1, unival X8, putlis X0, unival Y0, unival X9, deallocate, execute q/1" + l1},
		// what is within takes its registers first
		{"p :- q(f(g(h(a),[b|k(c)]),d,[h(e)|X0]))." + q1, "pred p/0, allocate 1, putstr h/1 X8, unicon a, putstr k/1 X9, unicon c, putlis X10, unicon b, unival X9, putstr g/2 X11, unival X8, unival X10, putstr h/1 X12, unicon e, putlis X13, unival X12, univar Y0, putstr f/3 X0, unival X11, unicon d, unival X13, deallocate, execute q/1" + l1},
		// a variable that a line ahead has isn't new any more, wherever it stands in the clause
		{"p :- q(f(X0,g(X1,X0),X1))." + q1, "pred p/0, allocate 2, putstr g/2 X8, univar Y1, univar Y0, putstr f/3 X0, unival Y0, unival X8, unival Y1, deallocate, execute q/1" + l1},
		// each Arg, and each goal, has X8 and so on anew
		{"p :- q(f(g(a)),[b|h(c)],d,f([X0|X0])), q(f(f(a)),a,a,a)." + q4, "pred p/0, allocate 1, putstr g/1 X8, unicon a, putstr f/1 X0, unival X8, putstr h/1 X8, unicon c, putlis X1, unicon b, unival X8, putcon d X2, putlis X8, univar Y0, unival Y0, putstr f/1 X3, unival X8, call q/4, putstr f/1 X8, unicon a, putstr f/1 X0, unival X8, putcon a X1, putcon a X2, putcon a X3, deallocate, execute q/4" + l4},
		{"p(f(g(a))) :- q(f(g(a)))." + q1, "pred p/1, allocate 0, getstr f/1 X0, univar X8, getstr g/1 X8, unicon a, putstr g/1 X8, unicon a, putstr f/1 X0, unival X8, deallocate, execute q/1" + l1},
		// up to the last register
		{"p :- q(f(f(f(f(f(f(f(f(f(X0))))))))))." + q1, "pred p/0, allocate 1, putstr f/1 X8, univar Y0, putstr f/1 X9, unival X8, putstr f/1 X10, unival X9, putstr f/1 X11, unival X10, putstr f/1 X12, unival X11, putstr f/1 X13, unival X12, putstr f/1 X14, unival X13, putstr f/1 X15, unival X14, putstr f/1 X0, unival X15, deallocate, execute q/1" + l1},
	})
}

// P14.1: cut and fail, wherever they stand.
func TestCutAndFail(t *testing.T) {
	const q, l = "; q.", ", pred q/0, proceed"
	holdShapes(t, []shape{
		{"p :- cut.", "pred p/0, neckcut, proceed"},
		{"p :- cut, cut.", "pred p/0, neckcut, neckcut, proceed"},
		{"p(X0) :- cut.", "pred p/1, allocate 1, getvar Y0 X0, neckcut, deallocate, proceed"},
		{"p(a) :- cut, q." + q, "pred p/1, allocate 0, getcon a X0, neckcut, deallocate, execute q/0" + l},
		{"p :- q, cut." + q, "pred p/0, allocate 1, getlevel Y0, call q/0, cut Y0, deallocate, proceed" + l},
		{"p(X0) :- q, cut, p(X1)." + q, "pred p/1, allocate 3, getlevel Y2, getvar Y0 X0, call q/0, cut Y2, putvar Y1 X0, deallocate, execute p/1" + l},
		{"p :- cut, q, cut, q, cut." + q, "pred p/0, allocate 1, getlevel Y0, neckcut, call q/0, cut Y0, call q/0, cut Y0, deallocate, proceed" + l},
		{"p :- q, cut, cut, q." + q, "pred p/0, allocate 1, getlevel Y0, call q/0, cut Y0, cut Y0, deallocate, execute q/0" + l},
		{"p :- cut, q, q." + q, "pred p/0, allocate 0, neckcut, call q/0, deallocate, execute q/0" + l},
		{"p(" + row(0, 8) + ") :- q(" + row(8, 4) + "), cut.; q(a,b,c,d).", "pred p/8, allocate 13, getlevel Y12, getvar Y0 X0, getvar Y1 X1, getvar Y2 X2, getvar Y3 X3, getvar Y4 X4, getvar Y5 X5, getvar Y6 X6, getvar Y7 X7, putvar Y8 X0, putvar Y9 X1, putvar Y10 X2, putvar Y11 X3, call q/4, cut Y12, deallocate, proceed, pred q/4, getcon a X0, getcon b X1, getcon c X2, getcon d X3, proceed"},
		{"p :- fail.", "pred p/0, fail"},
		{"p(X0,f(X1)) :- fail.", "pred p/2, allocate 2, getvar Y0 X0, getstr f/1 X1, univar Y1, fail"},
		{"p(a) :- fail, fail.; p(b).", "pred p/1, try @0, getcon a X0, fail, @0, trust, getcon b X0, proceed"},
		{"p :- q, fail." + q, "pred p/0, allocate 0, call q/0, fail" + l},
		{"p :- cut, fail.; p.", "pred p/0, try @0, neckcut, fail, @0, trust, proceed"},
		{"p :- q, cut, fail." + q, "pred p/0, allocate 1, getlevel Y0, call q/0, cut Y0, fail" + l},
		{"p :- fail, cut.", "pred p/0, fail"},
		// goals behind fail have no code; the clause has them, and their variables, nevertheless
		{"p :- q, fail, q." + q, "pred p/0, allocate 0, call q/0, fail" + l},
		{"p :- fail, q." + q, "pred p/0, allocate 0, fail" + l},
		{"p(a) :- fail, p(X0).", "pred p/1, allocate 1, getcon a X0, fail"},
		{"p(X0) :- p(X1), fail, p(f(X2,X0)).", "pred p/1, allocate 3, getvar Y0 X0, putvar Y1 X0, call p/1, fail"},
		{"p :- q, fail, cut." + q, "pred p/0, allocate 1, getlevel Y0, call q/0, fail" + l},
		{"p :- fail, q, cut." + q, "pred p/0, allocate 1, getlevel Y0, fail" + l},
		// of one Arg or more they are predicates', as any other name within a term is a name
		{"p(cut,f(fail)) :- p(fail,[cut|cut]).", "pred p/2, allocate 0, getcon cut X0, getstr f/1 X1, unicon fail, putcon fail X0, putlis X1, unicon cut, unicon cut, deallocate, execute p/2"},
	})
}

// P14.1: names are told as they are, of whatever length.
func TestNames(t *testing.T) {
	long := strings.Repeat("n9", 16)
	holdLines(t, long+"("+long+","+long+"(a)) :- "+long+"("+long+"(b),"+long+").", "pred "+long+"/2, allocate 0, getcon "+long+" X0, getstr "+long+"/1 X1, unicon a, putstr "+long+"/1 X0, unicon b, putcon "+long+" X1, deallocate, execute "+long+"/2")
}

// facts are so many clauses, of as many predicates as told, one behind the other.
func facts(t *testing.T, n, preds int) []comp.Clause {
	var l []comp.Clause
	for k := range n {
		l = append(l, made(t, "p"+strconv.Itoa(k%preds)))
	}
	return l
}

// P14.1: 1000 clauses are told, with all their labels; 1001 aren't.
func TestManyClauses(t *testing.T) {
	for _, preds := range []int{1, 2, 10, 333, 999, 1000} {
		l, e, at := comp.Lines(facts(t, 1000, preds)...)
		var labels []string
		for _, line := range l {
			if strings.HasPrefix(line, "@") {
				labels = append(labels, line)
			}
		}
		if e != api.OK || at != -1 || len(labels) != 1000-preds || slices.Index(labels, "@"+strconv.Itoa(len(labels)-1)) != len(labels)-1 {
			t.Error(preds, e.Word(), at, len(labels))
		}
		if l, e, at := comp.Lines(facts(t, 1001, preds)...); len(l) != 0 || e != api.ErrFull || at != -1 {
			t.Error(preds, len(l), e.Word(), at)
		}
	}
	if l, e, at := comp.Lines(facts(t, 5000, 7)...); len(l) != 0 || e != api.ErrFull || at != -1 {
		t.Error(len(l), e.Word(), at)
	}
}
