package fast

import (
	"resolvent/api"
	"resolvent/cell"
	"resolvent/machine"
)

// Where an environment's words are, from its first one on.
const (
	wordE    = 0 // the environment that it is on top of
	wordCP   = 1
	wordSize = 2 // how many places it has
	places   = 3
)

// choice is how all was, and another way. It keeps as many registers as any predicate has arguments: those beyond its own are set on no way that goes on from here.
type choice struct {
	x                      [api.MaxArity]cell.Cell
	e, cp, b0, next, other int
	cells, trail           int // how many there were
}

// place answers where the environment's place y is in the row.
func (m *Machine) place(y int) int { return m.e + places + y }

// next answers where the next environment stands.
func (m *Machine) next() int {
	at := 0
	if m.e >= 0 {
		at = m.place(m.words[m.e+wordSize])
	}
	if last := len(m.choices) - 1; last >= 0 {
		at = max(at, m.choices[last].next)
	}
	return at
}

func (m *Machine) allocate(size int) {
	at := m.next()
	m.words[at+wordE], m.words[at+wordCP], m.words[at+wordSize] = m.e, m.cp, size
	m.e = at
}

func (m *Machine) try(way int) {
	c := choice{e: m.e, cp: m.cp, b0: m.b0, next: m.next(), other: way, cells: m.cells.Top(), trail: len(m.trail)}
	copy(c.x[:], m.x[:])
	m.choices = append(m.choices, c)
}

// cut takes all choices above a level away.
func (m *Machine) cut(level int) { m.choices = m.choices[:min(level, len(m.choices))] }

// fail goes back to the last choice, if there is one.
func (m *Machine) fail() {
	last := len(m.choices) - 1
	if last < 0 {
		m.outcome = machine.Failure
		return
	}
	c := m.choices[last]
	for _, at := range m.trail[c.trail:] {
		m.cells.Put(at, cell.Make(cell.Ref, at))
	}
	m.trail = m.trail[:c.trail]
	m.cells.Cut(c.cells)
	copy(m.x[:], c.x[:])
	m.e, m.cp, m.b0 = c.e, c.cp, c.b0
	m.enter(c.other)
}
