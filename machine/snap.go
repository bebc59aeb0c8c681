package machine

import (
	"slices"

	"resolvent/cell"
	"resolvent/verify"
)

// Snap answers all that may be looked at yet: what is set on all ways that come to the place PC. All else may be there by chance.
func (m *Machine) Snap() Snap {
	if !m.made() {
		return Snap{}
	}
	s := Snap{Outcome: m.outcome, PC: m.pc, CP: m.cp, E: m.e, B: len(m.choices), Cells: m.store.heap.Cells(), Trail: m.store.heap.Trail()}
	known := m.report.States[m.pc]
	if known.Neck {
		s.B0 = m.b0
	}
	if known.Left != 0 {
		s.Write = m.write
	}
	if known.Left != 0 && !m.write {
		s.S = m.s
	}
	for x := range s.X {
		if known.X>>x&1 == 1 {
			s.X[x] = cell.Cell(m.x[x].bits)
		}
	}
	for y, has := range known.Y {
		if has == verify.Term || has == verify.Level {
			s.Y[y] = m.placeBits(y)
		}
	}
	return s
}

// placeBits answers what the environment's place y has, whichever it is.
func (m *Machine) placeBits(y int) uint64 {
	w := m.place(y)
	if w == nil {
		return 0
	}
	return uint64(w.bits)
}

// Same tells whether both are the same.
func Same(a, b Snap) bool {
	return a.Outcome == b.Outcome && a.PC == b.PC && a.CP == b.CP && a.E == b.E && a.B == b.B && a.B0 == b.B0 && a.Write == b.Write && a.S == b.S && slices.Equal(a.Cells, b.Cells) && slices.Equal(a.Trail, b.Trail) && a.X == b.X && a.Y == b.Y
}
