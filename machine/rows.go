package machine

import (
	"slices"

	"resolvent/api"
)

// Where an environment's words are, from its first one on.
const (
	wordE    = 0 // the environment that it is on top of
	wordCP   = 1
	wordSize = 2 // how many places it has
	places   = 3
)

// choice is how all was, and another way. What the Heap was then is a Mark of it.
type choice struct {
	x                      [api.MaxArity]word
	e, cp, b0, next, other int
}

// number answers a number in the row of words.
func (m *Machine) number(at int) (int, bool) {
	if at < 0 || at >= len(m.words) {
		return 0, false
	}
	return m.words[at].number()
}

// behind answers the place behind the environment's last one; without an environment the row's beginning.
func (m *Machine) behind() (int, bool) {
	if m.e < 0 {
		return 0, true
	}
	size, there := m.number(m.e + wordSize)
	return m.e + places + size, there
}

// next answers where the next environment stands: behind the one that there is, and behind all that are to be as they were at the last choice.
func (m *Machine) next() (int, bool) {
	at, ok := m.behind()
	if last := len(m.choices) - 1; last >= 0 {
		at = max(at, m.choices[last].next)
	}
	return at, ok
}

// place answers the word of the environment's place y (nil: there is none).
func (m *Machine) place(y int) *word {
	end, ok := m.behind()
	at := m.e + places + y
	if m.e < 0 || !ok || at >= end {
		return nil
	}
	return &m.words[at]
}

func (m *Machine) allocate(size int) int {
	at, ok := m.next()
	end := at + places + size
	if !ok || end > m.room.Words {
		return Stuck
	}
	if more := end - len(m.words); more > 0 {
		m.words = append(m.words, make([]word, more)...)
	}
	clear(m.words[at:end])
	m.words[at+wordE], m.words[at+wordCP], m.words[at+wordSize] = ofNumber(m.e), ofNumber(m.cp), ofNumber(size)
	m.e = at
	return onward
}

func (m *Machine) deallocate() int {
	e, there := m.number(m.e + wordE)
	cp, too := m.number(m.e + wordCP)
	if !there || !too {
		return Stuck
	}
	m.e, m.cp = e, cp
	return onward
}

// try makes a choice, which keeps the arguments of the predicate that tries.
func (m *Machine) try(way int) int {
	arity := m.arity()
	next, ok := m.next()
	if !ok || len(m.choices) >= m.room.Choices {
		return Stuck
	}
	if slices.ContainsFunc(m.x[:arity], func(w word) bool { return w.has != hasCell }) {
		return Stuck
	}
	c := choice{e: m.e, cp: m.cp, b0: m.b0, next: next, other: way}
	copy(c.x[:], m.x[:arity])
	m.choices = append(m.choices, c)
	m.store.mark()
	return onward
}

// arity is that of the predicate whose code has the instruction at PC: the last one that begins up to there.
func (m *Machine) arity() int {
	arity, entry := 0, -1
	for _, p := range m.preds {
		if p.Entry <= m.pc && p.Entry > entry {
			arity, entry = p.Arity, p.Entry
		}
	}
	return arity
}

func (m *Machine) retry(way int) int {
	last := len(m.choices) - 1
	if last < 0 {
		return Stuck
	}
	m.choices[last].other = way
	return onward
}

// trust takes the last choice away.
func (m *Machine) trust() int {
	last := len(m.choices) - 1
	if last < 0 || !m.store.drop() {
		return Stuck
	}
	m.choices = m.choices[:last]
	return onward
}

// cut takes all choices above a level away.
func (m *Machine) cut(level int) int {
	for len(m.choices) > level {
		if course := m.trust(); course != onward {
			return course
		}
	}
	return onward
}

// cutTo cuts to the level that place y has.
func (m *Machine) cutTo(y int) int {
	w := m.place(y)
	if w == nil {
		return Stuck
	}
	level, ok := w.number()
	if !ok {
		return Stuck
	}
	return m.cut(level)
}

func (m *Machine) getLevel(y int) int {
	w := m.place(y)
	if w == nil {
		return Stuck
	}
	*w = ofNumber(m.b0)
	return onward
}

// fail goes back to the last choice, if there is one, and answers the outcome.
func (m *Machine) fail() int {
	last := len(m.choices) - 1
	if last < 0 {
		return Failure
	}
	if !m.store.undo() {
		return Stuck
	}
	c := m.choices[last]
	clear(m.x[:])
	copy(m.x[:], c.x[:])
	m.e, m.cp, m.b0 = c.e, c.cp, c.b0
	return m.enter(c.other)
}
