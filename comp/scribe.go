package comp

import (
	"resolvent/api"
	"resolvent/term"
)

// firstWithin is the first register of those for what stands within an Arg: behind all that Args may have.
const firstWithin = api.MaxArity

// What instructions' names begin with: those of a Head's Args, of a goal's, and of parts.
const (
	get  = "get"
	put  = "put"
	part = "uni"
)

// scribe writes one clause's code.
type scribe struct {
	*writer
	places map[int]int // of the variables, by their numbers
	met    []bool      // of each place: there is something in it
	level  int         // the place of the level, if there is one
	env    bool        // there is an environment
	next   int         // the next register for what stands within an Arg
}

// goals writes all goals, and the end.
func (s *scribe) goals(body []term.Term) {
	called := false
	for i, goal := range body {
		switch {
		case isFail(goal):
			s.say("fail")
			return
		case isCut(goal) && called:
			s.say("cut", wordY(s.level))
		case isCut(goal):
			s.say("neckcut")
		default:
			s.putAll(goal.Args)
			if i == len(body)-1 {
				s.say("deallocate")
				s.say("execute", nameWord(goal))
				return
			}
			s.say("call", nameWord(goal))
			called = true
		}
	}
	if s.env {
		s.say("deallocate")
	}
	s.say("proceed")
}

// plain writes what is done of a variable or a Con; of a part no register is told.
func (s *scribe) plain(verb string, t term.Term, register ...string) {
	op, word := verb+"con", t.Name
	if t.Kind == term.Var {
		op, word = s.variable(verb, t.N)
	}
	s.say(append([]string{op, word}, register...)...)
}

// variable answers what is done of a variable, and its place. Whether it is met for the first time goes by the lines, not by the clause's text: what has something by then is what counts.
func (s *scribe) variable(verb string, n int) (op, place string) {
	y := s.places[n]
	op = verb + "val"
	if !s.met[y] {
		s.met[y] = true
		op = verb + "var"
	}
	return op, wordY(y)
}

// begin writes what is done of a Str or Lis ahead of its parts.
func (s *scribe) begin(verb string, t term.Term, x int) {
	if t.Kind == term.Lis {
		s.say(verb+"lis", wordX(x))
		return
	}
	s.say(verb+"str", nameWord(t), wordX(x))
}

// take answers the next register, which then is taken.
func (s *scribe) take() int {
	x := s.next
	s.next++
	return x
}

// gotAll gets a Head's Args.
func (s *scribe) gotAll(args []term.Term) {
	for x, arg := range args {
		if hasParts(arg) {
			s.gotWhole(arg, x)
		} else {
			s.plain(get, arg, wordX(x))
		}
	}
}

// inner is a Str or Lis, and the register where it is found.
type inner struct {
	t term.Term
	x int
}

// gotWhole goes through a Str or Lis, and then through all that stand within it, in the order of their registers: nothing else may be done till all parts of one are.
func (s *scribe) gotWhole(t term.Term, x int) {
	s.next = firstWithin
	row := []inner{{t: t, x: x}}
	for len(row) > 0 {
		s.begin(get, row[0].t, row[0].x)
		more := s.gotParts(row[0].t.Args)
		row = append(row[1:], more...)
	}
}

// gotParts writes what is done of each part, and answers those that are to be gone through yet.
func (s *scribe) gotParts(parts []term.Term) []inner {
	var l []inner
	for _, t := range parts {
		if !hasParts(t) {
			s.plain(part, t)
			continue
		}
		x := s.take()
		s.say("univar", wordX(x))
		l = append(l, inner{t: t, x: x})
	}
	return l
}

// putAll puts a goal's Args.
func (s *scribe) putAll(args []term.Term) {
	for x, arg := range args {
		if !hasParts(arg) {
			s.plain(put, arg, wordX(x))
			continue
		}
		s.next = firstWithin
		xs := s.putWithin(arg.Args)
		s.putWhole(arg, x, xs)
	}
}

// putWithin puts those parts that have parts themselves, each behind what stands within it, and answers their registers: a part that is written must be there whole.
func (s *scribe) putWithin(parts []term.Term) []int {
	var l []int
	for _, t := range parts {
		if hasParts(t) {
			xs := s.putWithin(t.Args)
			x := s.take()
			s.putWhole(t, x, xs)
			l = append(l, x)
		}
	}
	return l
}

// putWhole puts a Str or Lis; xs are the registers of those of its parts that have parts.
func (s *scribe) putWhole(t term.Term, x int, xs []int) {
	s.begin(put, t, x)
	for _, p := range t.Args {
		if !hasParts(p) {
			s.plain(part, p)
			continue
		}
		s.say("unival", wordX(xs[0]))
		xs = xs[1:]
	}
}
