package shell

import (
	"strconv"
	"strings"

	"resolvent/api"
	"resolvent/fast"
	"resolvent/machine"
	"resolvent/obj"
	"resolvent/term"
)

// ask makes both machines of the object, unless there is an error.
func (s *Shell) ask(text string) string {
	q, ok := readQuestion(text)
	if !ok {
		return what
	}
	if s.object == nil {
		return noObject
	}
	pred := obj.Find(*s.object, q.name, q.arity)
	looking, e := machine.New(*s.object, pred, q.room)
	if e != api.OK {
		return e.Word()
	}
	trusting, e := fast.New(*s.object, pred, q.room)
	if e != api.OK {
		return e.Word()
	}
	s.looking, s.trusting = looking, trusting
	return e.Word()
}

// step lets both machines go on by so many instructions at most.
func (s *Shell) step(text string) string {
	n, ok := readNumber(text)
	if !ok {
		return what
	}
	if s.looking == nil {
		return noMachine
	}
	a, b := s.looking.Run(n), s.trusting.Run(n)
	if a != b || !s.same() {
		return differ
	}
	return outcomeWord(a)
}

// again asks both machines for another answer.
func (s *Shell) again() string {
	if s.looking == nil {
		return noMachine
	}
	a, b := s.looking.Again(), s.trusting.Again()
	switch {
	case a != b || !s.same():
		return differ
	case a:
		return yes
	}
	return no
}

// same tells whether both machines are.
func (s *Shell) same() bool {
	return machine.Same(s.looking.Snap(), s.trusting.Snap())
}

// read tells what an argument has come to.
func (s *Shell) read(text string) string {
	n, ok := readNumber(text)
	if !ok {
		return what
	}
	if s.looking == nil {
		return noMachine
	}
	t, e := s.looking.Read(n)
	if e != api.OK {
		return e.Word()
	}
	return term.Text(t)
}

// state tells how the machines are.
func (s *Shell) state() string {
	if s.looking == nil {
		return noMachine
	}
	now := s.looking.Snap()
	var words []string
	for _, n := range [...]int{now.PC, now.CP, now.E, now.B, len(now.Cells), len(now.Trail)} {
		words = append(words, strconv.Itoa(n))
	}
	return strings.Join(words, blank)
}
