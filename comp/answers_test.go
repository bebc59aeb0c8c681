package comp_test

import (
	"math/rand"
	"strings"
	"testing"

	"resolvent/api"
	"resolvent/comp"
	"resolvent/fast"
	"resolvent/link"
	"resolvent/machine"
	"resolvent/mgu"
	"resolvent/obj"
	"resolvent/term"
	"resolvent/verify"
)

var large = machine.Room{Cells: 2000, Words: 2000, Choices: 500}

// both are the two machines of an object, side by side.
type both struct {
	t *testing.T
	m *machine.Machine
	f *fast.Machine
}

func begin(t *testing.T, o obj.Object, pred int, room machine.Room) both {
	t.Helper()
	m, e := machine.New(o, pred, room)
	f, e2 := fast.New(o, pred, room)
	if e != api.OK || e2 != api.OK {
		t.Fatal(e.Word(), e2.Word())
	}
	return both{t: t, m: m, f: f}
}

func (b both) holdSame() {
	b.t.Helper()
	if x, y := b.m.Snap(), b.f.Snap(); !machine.Same(x, y) {
		b.t.Fatal(x, y)
	}
}

// run goes on as long as both are running; it looks at both behind each of the first steps.
func (b both) run() int {
	b.t.Helper()
	for range 100 {
		if x, y := b.m.Step(), b.f.Step(); x != y {
			b.t.Fatal(x, y)
		}
		b.holdSame()
	}
	x, y := b.m.Run(100000), b.f.Run(100000)
	if x != y {
		b.t.Fatal(x, y)
	}
	b.holdSame()
	return x
}

func (b both) again() {
	b.t.Helper()
	if x, y := b.m.Again(), b.f.Again(); x != y {
		b.t.Fatal(x, y)
	}
	b.holdSame()
}

// read answers what the arguments have come to (false: a variable's number is too great to be read).
func (b both) read(arity int) ([]term.Term, bool) {
	b.t.Helper()
	var l []term.Term
	for k := range arity {
		x, e := b.m.Read(k)
		if e == api.ErrFull {
			return nil, false
		}
		if e != api.OK {
			b.t.Fatal(k, e.Word())
		}
		l = append(l, x)
	}
	return l, true
}

// count is what was held.
type count struct{ answers, ends, full, lost int }

// holdAnswers holds the machines' answers of a predicate, one behind the other, against those of a search through the clauses, till it is Full, or the search gives up.
func holdAnswers(t *testing.T, o obj.Object, all []comp.Clause, pred int, room machine.Room, n *count) {
	t.Helper()
	p := o.Preds[pred]
	b := begin(t, o, pred, room)
	s := newSearch(all, p.Name, p.Arity, 250)
	for range 40 {
		want, found, known := s.next()
		if !known {
			n.lost++
			return
		}
		out := b.run()
		switch {
		case out == machine.Full:
			n.full++
			return
		case !found:
			if out != machine.Failure {
				t.Fatal(tell(all), p, out)
			}
			n.ends++
			return
		case out != machine.Success:
			t.Fatal(tell(all), p, out)
		}
		got, ok := b.read(p.Arity)
		if ok && !mgu.Alike(got, want) {
			t.Fatal(tell(all), p, textOf(got), "should be", textOf(want))
		}
		n.answers++
		b.again()
	}
}

func tell(l []comp.Clause) string {
	var s []string
	for _, c := range l {
		s = append(s, comp.Text(c))
	}
	return strings.Join(s, "; ")
}

func textOf(l []term.Term) string {
	var s []string
	for _, x := range l {
		s = append(s, term.Text(x))
	}
	return strings.Join(s, ";")
}

// trusted is the object of clauses, which must be trusted, also when it was bytes.
func trusted(t *testing.T, l []comp.Clause) obj.Object {
	t.Helper()
	o, e, at := comp.Program(l...)
	if e != api.OK {
		t.Fatal(tell(l), e.Word(), at)
	}
	if _, e, at := verify.Check(o); e != api.OK {
		t.Fatal(tell(l), e.Word(), at)
	}
	b, e := obj.Encode(o)
	x, e2 := obj.Decode(b)
	if e != api.OK || e2 != api.OK || !obj.Same(x, o) {
		t.Fatal(tell(l), e.Word(), e2.Word())
	}
	return x
}

// P14.3, P8: programs by hand, and what comes of them.
func TestAnswers(t *testing.T) {
	const lists = "app(nil,X0,X0).; app([X0|X1],X2,[X0|X3]) :- app(X1,X2,X3).; "
	const ways = "n(a).; n(b).; n(c).; "
	for _, c := range []struct{ row, want string }{
		{"p(a).; p(b).", "a, b"},
		{"p(X0).", "X0"},
		{"p(X0) :- q(X0), r(X0).; q(a).; q(b).; r(b).; q(c).; r(c).; r(b).", "b, b, c"},
		{lists + "p(X0,X1) :- app(X0,X1,[a|[b|nil]]).", "nil;[a|[b|nil]], [a|nil];[b|nil], [a|[b|nil]];nil"},
		{lists + "p(X0) :- app([X1|nil],[X1|X2],X0).", "[X0|[X0|X1]]"},
		{lists + "rev(nil,nil).; rev([X0|X1],X2) :- rev(X1,X3), app(X3,[X0|nil],X2).; p(X0) :- rev([a|[b|[c|nil]]],X0).", "[c|[b|[a|nil]]]"},
		{"add(z,X0,X0).; add(s(X0),X1,s(X2)) :- add(X0,X1,X2).; p(X0,X1) :- add(X0,X1,s(s(z))).", "z;s(s(z)), s(z);s(z), s(s(z));z"},
		{"p(f(X0,[X1|X0]),g(X1)) :- q(X0), q(X1).; q(a).; q(h(X0)).", "f(a,[a|a]);g(a), f(a,[h(X0)|a]);g(h(X0)), f(h(X0),[a|h(X0)]);g(a), f(h(X0),[h(X1)|h(X0)]);g(h(X1))"},
		{"p(X0) :- q(f(g(X1,h(X2)),X1,[X2|X3]),X0).; q(f(g(a,X0),X1,X2),r(X0,X1,X2)).", "r(h(X0),a,[X0|X1])"},
		// cut
		{ways + "p(X0) :- n(X0), cut.", "a"},
		{ways + "p(X0) :- cut, n(X0).; p(d).", "a, b, c"},
		{ways + "p(d).; p(X0) :- cut, n(X0).; p(e).", "d, a, b, c"},
		{ways + "p(X0,X1) :- n(X0), cut, n(X1).; p(d,d).", "a;a, a;b, a;c"},
		{ways + "p(X0,X1) :- n(X0), q(X1).; q(X0) :- n(X0), cut.", "a;a, b;a, c;a"},
		{ways + "p(X0,X1) :- n(X0), q(X0,X1).; q(b,X0) :- cut, n(X0).; q(X0,d).", "a;d, b;a, b;b, b;c, c;d"},
		{ways + "p(X0,X1,X2) :- n(X0), q(X1), cut, n(X2).; q(d).; q(e).; p(a,a,a).", "a;d;a, a;d;b, a;d;c"},
		{ways + "p(X0,X1) :- cut, n(X0), cut, n(X1), cut.; p(d,d).", "a;a"},
		{ways + "p(X0) :- n(X0), r(X0), cut.; p(d).; r(b).; r(c).", "b"},
		{ways + "p(X0) :- n(X0), r(X0), cut.; p(d).; r(e).", "d"},
		{ways + "not(X0) :- r(X0), cut, fail.; not(X0).; p(X0) :- n(X0), not(X0).; r(b).", "a, c"},
		// fail
		{ways + "p(X0) :- fail.", ""},
		{ways + "p(a) :- fail.; p(b).; p(c) :- n(X0), fail.; p(d).", "b, d"},
		{ways + "p(X0) :- n(X0), fail, n(X0).; p(X0) :- cut, fail.; p(d).", ""},
		{ways + "p(X0) :- n(X0), cut, fail.; p(d).", ""},
		// a last goal with and without variables, and goals that have none
		{"p(a) :- q, r, q.; q.; r.; q.", "a, a, a, a"},
		{"p(X0) :- q, r(X0).; q :- s, s.; r(X0) :- s, t(X0).; s.; s.; t(a).; t(b).", "a, b, a, b, a, b, a, b, a, b, a, b, a, b, a, b"},
		{"p(cut) :- q.; p(fail).; q :- s.; s :- cut.; s.", "cut, fail"},
	} {
		l := clauses(t, c.row)
		o := trusted(t, l)
		arity := 1
		for obj.Find(o, "p", arity) < 0 {
			arity++
		}
		b := begin(t, o, obj.Find(o, "p", arity), large)
		var got []string
		for b.run() == machine.Success {
			x, _ := b.read(arity)
			got = append(got, textOf(mgu.Rename(0, x...)))
			b.again()
		}
		if s := strings.Join(got, ", "); s != c.want || b.m.Snap().Outcome != machine.Failure {
			t.Error(c.row, s, "should be", c.want)
		}
		var n count
		holdAnswers(t, o, l, obj.Find(o, "p", arity), large, &n)
		if n != (count{answers: len(got), ends: 1}) {
			t.Error(c.row, n, len(got))
		}
	}
}

// P14.3: a predicate that has as many clauses as there may be answers each of them.
func TestManyAnswers(t *testing.T) {
	l := facts(t, 340, 1)
	o := trusted(t, l)
	b := begin(t, o, 0, large)
	n := 0
	for ; b.run() == machine.Success; n++ {
		b.again()
	}
	if n != 340 || b.m.Snap().Outcome != machine.Failure {
		t.Error(n, b.m.Snap().Outcome)
	}
}

// author writes clauses by chance.
type author struct {
	r    *rand.Rand
	mark string // what its predicates' names begin with
}

// pred is one of some predicates: its name, and how many Args.
func (a author) pred(of string) (string, int) {
	return a.mark + of[:a.r.Intn(len(of))+1], a.r.Intn(4)
}

func (a author) term(deep int) term.Term {
	switch a.r.Intn(5 + deep) {
	case 0, 1, 2:
		return term.Term{Kind: term.Var, N: a.r.Intn(4)}
	case 3, 4:
		return term.Term{Kind: term.Con, Name: string(rune('a' + a.r.Intn(3)))}
	}
	if a.r.Intn(3) == 0 {
		return term.Term{Kind: term.Lis, Args: a.terms(2, deep-1)}
	}
	n := 1 + a.r.Intn(3)
	return term.Term{Kind: term.Str, Name: string(rune('f' + a.r.Intn(2))), Args: a.terms(n, deep-1)}
}

func (a author) terms(n, deep int) []term.Term {
	var l []term.Term
	for range n {
		l = append(l, a.term(deep))
	}
	return l
}

func (a author) goal(name string, arity int) term.Term {
	kind := term.Str
	if arity == 0 {
		kind = term.Con
	}
	return term.Term{Kind: kind, Name: name, Args: a.terms(arity, a.r.Intn(4))}
}

// program writes clauses; goals are such as have a Head, but cut and fail.
func (a author) program() []comp.Clause {
	var l []comp.Clause
	for range 1 + a.r.Intn(9) {
		l = append(l, comp.Clause{Head: a.goal(a.pred("ppp"))})
	}
	for k := range l {
		for range a.r.Intn(4) {
			l[k].Body = append(l[k].Body, a.someGoal(l, l[k].Head))
		}
	}
	return l
}

// someGoal is cut or fail, or has one of the Heads' names: most a longer one than the own Head's, or one with more Args, so that there is an end.
func (a author) someGoal(l []comp.Clause, own term.Term) term.Term {
	if a.r.Intn(6) == 0 {
		return term.Term{Kind: term.Con, Name: []string{"cut", "cut", "fail"}[a.r.Intn(3)]}
	}
	for range 20 {
		h := l[a.r.Intn(len(l))].Head
		if h.Name > own.Name || h.Name == own.Name && len(h.Args) > len(own.Args) || a.r.Intn(30) == 0 {
			return a.goal(h.Name, len(h.Args))
		}
	}
	return term.Term{Kind: term.Con, Name: "cut"}
}

// right is a program with which Lines has nothing wrong.
func (a author) right() []comp.Clause {
	for {
		l := a.program()
		if _, e, _ := comp.Lines(l...); e == api.OK {
			return l
		}
	}
}

// P14.2, P14.3, P5, P8: programs by chance can be trusted, and answer what comes of their clauses, in rooms of all kinds.
func TestByChance(t *testing.T) {
	a := author{r: rand.New(rand.NewSource(81))}
	var n count
	for range 700 {
		l := a.right()
		o := trusted(t, l)
		for pred := range o.Preds {
			holdAnswers(t, o, l, pred, large, &n)
			holdAnswers(t, o, l, pred, machine.Room{Cells: a.r.Intn(40), Words: a.r.Intn(40), Choices: a.r.Intn(9)}, &n)
		}
	}
	if n.answers < 2000 || n.ends < 2000 || n.full < 500 || n.lost < 100 {
		t.Error(n)
	}
}

// P5, P8: objects of clauses, made one, can be trusted, and answer what comes of all clauses.
func TestLinked(t *testing.T) {
	r := rand.New(rand.NewSource(82))
	var n count
	for range 200 {
		var all []comp.Clause
		var objects []obj.Object
		for _, mark := range []string{"a", "b", "c"} {
			l := author{r: r, mark: mark}.right()
			all = append(all, l...)
			objects = append(objects, trusted(t, l))
		}
		o, e, at := link.Objects(objects...)
		if e != api.OK {
			t.Fatal(e.Word(), at)
		}
		if _, e, at := verify.Check(o); e != api.OK {
			t.Fatal(tell(all), e.Word(), at)
		}
		for pred := range o.Preds {
			holdAnswers(t, o, all, pred, large, &n)
		}
	}
	if n.answers < 1000 || n.ends < 1000 {
		t.Error(n)
	}
}

// P1, P14.1: of clauses by chance of which something is wrong, what is answered is a fault, or lines that can be trusted.
func TestTurned(t *testing.T) {
	a := author{r: rand.New(rand.NewSource(83))}
	var seen [18]int
	for range 12000 {
		l := a.program()
		k := a.r.Intn(len(l))
		switch a.r.Intn(8) {
		case 0:
			l[k].Head = a.term(3)
		case 1:
			l[k].Body = append(l[k].Body, a.term(6))
		case 2:
			l[k].Body = append(l[k].Body, a.goal(a.pred("pq")))
		case 3:
			l[k].Head = a.goal("cut", a.r.Intn(2))
		case 4:
			l[k].Head = term.Term{Kind: term.Str, Name: "p", Args: a.terms(2, 8)}
		}
		lines, e, at := comp.Lines(l...)
		seen[e]++
		if e == api.OK {
			trusted(t, l)
		} else if len(lines) != 0 || at < 0 || at >= len(l) {
			t.Fatal(tell(l), e.Word(), at)
		}
	}
	for _, e := range []api.Errno{api.OK, api.ErrForm, api.ErrFull, api.ErrUnknown} {
		if seen[e] < 20 {
			t.Error(e.Word(), seen[e])
		}
	}
}
