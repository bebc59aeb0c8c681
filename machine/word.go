package machine

import (
	"resolvent/api"
	"resolvent/cell"
)

// What a word has.
const (
	hasNothing = iota
	hasNumber
	hasCell
)

// word is what a register has, or a place in the row of words. It knows which of these it is, so that none is taken for another.
type word struct {
	has, bits int
}

func ofNumber(n int) word { return word{has: hasNumber, bits: n} }

func ofCell(c cell.Cell) word { return word{has: hasCell, bits: int(c)} }

func (w word) number() (int, bool) { return w.bits, w.has == hasNumber }

func (w word) cell() (cell.Cell, bool) { return cell.Cell(w.bits), w.has == hasCell }

// reg answers where a Reg's word is (nil: the environment has no such place, or there is none).
func (m *Machine) reg(r int) *word {
	if r < api.MaxX {
		return &m.x[r]
	}
	return m.place(r - api.MaxX)
}

// get answers the cell that a Reg has.
func (m *Machine) get(r int) (cell.Cell, bool) {
	w := m.reg(r)
	if w == nil {
		return 0, false
	}
	return w.cell()
}

// set lets a Reg have a cell.
func (m *Machine) set(r int, c cell.Cell) bool {
	w := m.reg(r)
	if w == nil {
		return false
	}
	*w = ofCell(c)
	return true
}
