package comp_test

import (
	"slices"

	"resolvent/api"
	"resolvent/comp"
	"resolvent/mgu"
	"resolvent/term"
)

// goal is one that is to be so, and how many ways there were where its clause's predicate was come to.
type goal struct {
	t     term.Term
	level int
}

// state is what has come of what is asked, and the goals that are left.
type state struct {
	asked []term.Term
	goals []goal
}

// way is a state whose first goal is still to be tried with some clauses.
type way struct {
	state
	left []comp.Clause
}

// search goes through clauses on trees, from the first one on, each goal from left to right. It keeps whole states, and knows nothing of code.
type search struct {
	all   []comp.Clause
	ways  []way
	now   *state // nil: it goes back to the last way
	steps int    // how many more it does
	lost  bool   // a term would be within itself, or is too great for a tree
}

// newSearch asks a predicate, of which each argument is a variable.
func newSearch(all []comp.Clause, name string, arity, steps int) *search {
	asked := term.Term{Kind: term.Con, Name: name}
	for k := range arity {
		asked.Kind = term.Str
		asked.Args = append(asked.Args, term.Term{Kind: term.Var, N: k})
	}
	return &search{all: all, steps: steps, now: &state{asked: asked.Args, goals: []goal{{t: asked}}}}
}

// next answers what the arguments have come to; not found: there is no other answer; not known: the search gave up.
func (s *search) next() (answer []term.Term, found, known bool) {
	for ; s.steps > 0 && !s.lost; s.steps-- {
		switch {
		case s.now == nil && len(s.ways) == 0:
			return nil, false, true
		case s.now == nil:
			s.goBack()
		case len(s.now.goals) == 0:
			answer = s.now.asked
			s.now = nil
			return answer, true, true
		default:
			s.goOn()
		}
	}
	return nil, false, false
}

// goOn does the first goal that is left.
func (s *search) goOn() {
	at := *s.now
	first := at.goals[0]
	word := term.Text(first.t)
	switch word {
	case "fail":
		s.now = nil
	case "cut":
		s.ways = s.ways[:first.level]
		s.now = &state{asked: at.asked, goals: at.goals[1:]}
	default:
		s.now = nil
		s.ways = append(s.ways, way{state: at, left: s.of(first.t)})
	}
}

// of are the clauses of a goal's predicate.
func (s *search) of(g term.Term) []comp.Clause {
	var l []comp.Clause
	for _, c := range s.all {
		if c.Head.Name == g.Name && len(c.Head.Args) == len(g.Args) {
			l = append(l, c)
		}
	}
	return l
}

// goBack tries the last way's next clause.
func (s *search) goBack() {
	level := len(s.ways) - 1
	w := s.ways[level]
	s.ways = s.ways[:level]
	if len(w.left) == 0 {
		return
	}
	if len(w.left) > 1 {
		s.ways = append(s.ways, way{state: w.state, left: w.left[1:]})
	}
	s.enter(w.state, w.left[0], level)
}

// apply puts in what variables stand for, in all terms at once: each as the first one of a list, of which the rest has the others.
func (at *state) apply(one mgu.Subst) {
	row := term.Term{Kind: term.Con, Name: "nil"}
	for k := range at.goals {
		row = term.Term{Kind: term.Lis, Args: []term.Term{at.goals[k].t, row}}
	}
	for k := range at.asked {
		row = term.Term{Kind: term.Lis, Args: []term.Term{at.asked[k], row}}
	}
	row = mgu.Apply(one, row)
	for k := range at.asked {
		at.asked[len(at.asked)-1-k], row = row.Args[0], row.Args[1]
	}
	for k := range at.goals {
		at.goals[len(at.goals)-1-k].t, row = row.Args[0], row.Args[1]
	}
}

func size(l []term.Term) int {
	n := 0
	for _, x := range l {
		n += term.Size(x)
	}
	return n
}

// enter puts a clause's goals in the place of the first one, if that and its Head can be made one. Variables have numbers from 0 on, those of the clause behind the others.
func (s *search) enter(at state, c comp.Clause, level int) {
	row := slices.Clone(at.asked)
	for _, g := range at.goals {
		row = append(row, g.t)
	}
	if size(row) > 100 {
		s.lost = true
		return
	}
	row = mgu.Rename(0, row...)
	from := len(term.Vars(row...))
	own := mgu.Rename(from, append([]term.Term{c.Head}, c.Body...)...)
	asked, goals := row[:len(at.asked)], row[len(at.asked):]
	one, e := mgu.Unify(goals[0], own[0])
	if e != api.OK {
		s.lost = e == api.ErrCycle
		return
	}
	next := state{asked: asked}
	for _, x := range own[1:] {
		next.goals = append(next.goals, goal{t: x, level: level})
	}
	for k, x := range goals[1:] {
		next.goals = append(next.goals, goal{t: x, level: at.goals[k+1].level})
	}
	next.apply(one)
	s.now = &next
}
