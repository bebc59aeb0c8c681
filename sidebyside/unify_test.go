package sidebyside

import (
	"math/rand"
	"strconv"
	"strings"
	"testing"

	"resolvent/api"
	"resolvent/machine"
	"resolvent/mgu"
	"resolvent/term"
)

// someTerm is one by chance, of the variables X0 to X2.
func someTerm(r *rand.Rand, depth int) term.Term {
	args := func(n int) []term.Term {
		var l []term.Term
		for range n {
			l = append(l, someTerm(r, depth-1))
		}
		return l
	}
	switch k := r.Intn(9); {
	case k < 4 || depth == 0 && k < 6:
		return term.Term{Kind: term.Var, N: r.Intn(3)}
	case k < 5 || depth == 0:
		return term.Term{Kind: term.Con, Name: string("ab"[r.Intn(2)])}
	case k < 6:
		return term.Term{Kind: term.Lis, Args: args(2)}
	case k < 8:
		return term.Term{Kind: term.Str, Name: "f", Args: args(2)}
	}
	return term.Term{Kind: term.Str, Name: string("fg"[r.Intn(2)]), Args: args(1)}
}

// putter writes lines that put terms into registers from X3 on.
type putter struct {
	lines []string
	last  int
}

func (p *putter) say(l ...string) { p.lines = append(p.lines, strings.Join(l, " ")) }

// part writes what a part needs ahead of it, and answers its line.
func (p *putter) part(t term.Term) string {
	switch t.Kind {
	case term.Var:
		return "unival " + regX(t.N)
	case term.Con:
		return "unicon " + t.Name
	}
	return "unival " + p.put(t)
}

// put answers the register into which the term is put.
func (p *putter) put(t term.Term) string {
	if t.Kind == term.Var {
		return regX(t.N)
	}
	var parts []string
	for _, x := range t.Args {
		parts = append(parts, p.part(x))
	}
	p.last++
	to := regX(p.last)
	switch t.Kind {
	case term.Con:
		p.say("putcon", t.Name, to)
	case term.Lis:
		p.say("putlis", to)
	default:
		p.say("putstr", t.Name+"/"+strconv.Itoa(len(t.Args)), to)
	}
	for _, x := range parts {
		p.say(x)
	}
	return to
}

// P12.3, P6: what getval, and unival of a part that is there, make one is what layer 4 makes one, where no term is within itself: it fails where they can't be; else the arguments are read as one of the most general.
func TestAsTerms(t *testing.T) {
	r := rand.New(rand.NewSource(41))
	count := map[api.Errno]int{}
	for range 6000 {
		a, b := someTerm(r, 3), someTerm(r, 3)
		p := putter{lines: []string{"pred p/3"}, last: 2}
		x, y := p.put(a), p.put(b)
		if p.last > 14 {
			continue
		}
		if r.Intn(2) == 0 {
			p.say("getval", x, y)
		} else {
			p.say("putstr", "g/1", "X15")
			p.say("unival", x)
			p.say("getstr", "g/1", "X15")
			p.say("unival", y)
		}
		p.say("proceed")
		s := beginText(t, strings.Join(p.lines, ", "), large)
		out := s.run(len(p.lines))
		subst, e := mgu.Unify(a, b)
		count[e]++
		switch {
		case e == api.ErrCycle:
		case e == api.ErrClash && out != machine.Failure, e == api.OK && out != machine.Success:
			t.Fatal(p.lines, term.Text(a), term.Text(b), e.Word(), s.tell())
		case e == api.OK:
			s.holdTerms(subst)
		}
	}
	for e, least := range map[api.Errno]int{api.OK: 1000, api.ErrClash: 1000, api.ErrCycle: 100} {
		if count[e] < least {
			t.Error(e.Word(), count[e])
		}
	}
}

// holdTerms holds that the arguments are read as what the variables X0 to X2 stand for.
func (s *side) holdTerms(subst mgu.Subst) {
	s.t.Helper()
	var got, want []term.Term
	for k := range 3 {
		x, e := s.m.Read(k)
		if e != api.OK {
			s.t.Fatal(s.what, k, e.Word())
		}
		got = append(got, x)
		want = append(want, mgu.Apply(subst, term.Term{Kind: term.Var, N: k}))
	}
	if !mgu.Alike(got, want) {
		s.t.Fatal(s.what, got, want)
	}
}

// P12.1, P13.1: 4096 pairs are gone through, and no more: then it is Full, PC stays, and what was bound stays bound.
func TestPairs(t *testing.T) {
	two := "pred p/2, " + tree(11, 2, 3) + ", " + tree(11, 4, 5) // 4095 pairs
	one := ", putstr g/1 X2, unival X6, putstr g/1 X4, unival X7"
	first := ", putstr g/2 X6, unival X0, unival X2, putstr g/2 X7, unicon b, unival X4" // two more, of which one binds X0
	again := ", getvar X6 X2, getvar X7 X4"
	for _, c := range []struct {
		text string
		want string // what it begins with
		x0   string // what X0 is then
	}{
		{two + ", getval X2 X4, proceed", "success", "X0"},
		{two + again + one + ", getval X2 X4, proceed", "success", "X0"},
		{two + first + ", getval X6 X7, proceed", "full 74", "b"},
		{two + again + one + again + one + ", getval X2 X4, proceed", "full 80", "X0"},
		// a part that is there
		{two + ", putstr g/1 X6, unival X2, getstr g/1 X6, unival X4, proceed", "success", "X0"},
		{two + again + one + again + one + ", putstr g/1 X6, unival X2, getstr g/1 X6, unival X4, proceed", "full 83", "X0"},
		// terms within themselves
		{"pred p/2, getlis X0, unival X0, unival X0, getlis X1, unival X1, unival X1, getval X0 X1, proceed", "full 6", ""},
		{"pred p/2, getlis X0, unicon a, unival X0, getlis X1, unicon a, unival X1, getval X0 X1, proceed", "full 6", ""},
		{"pred p/2, getlis X0, unicon a, unival X0, getlis X1, unicon b, unival X1, getval X0 X1, proceed", "failure 6", ""},
		{"pred p/2, getlis X0, unicon a, unival X0, getval X0 X1, getval X1 X0, proceed", "success", ""},
		{"pred p/2, try @1, getlis X0, unival X0, unival X0, getlis X1, unival X1, unival X1, getval X0 X1, proceed, @1, trust, proceed", "full 7; b 1", ""},
	} {
		s := beginText(t, c.text, large)
		s.run(200)
		if !strings.HasPrefix(s.tell(), c.want) {
			t.Error(c.want, s.tell())
		}
		if c.x0 != "" {
			holdRead(t, s, 0, c.x0)
		}
		if s.w.out == machine.Full {
			s.stays()
		}
	}
	s := beginText(t, "pred p/2, getlis X0, unival X0, unival X0, getlis X1, unival X1, unival X1, getlis X0, unival X1, unival X1, proceed", large)
	if s.run(99) != machine.Full || !strings.HasPrefix(s.tell(), "full 7; s 3; ") {
		t.Error(s.tell())
	}
}
