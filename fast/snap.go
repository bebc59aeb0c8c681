package fast

import (
	"slices"

	"resolvent/machine"
	"resolvent/verify"
)

// Snap answers all that may be looked at yet, as layer 12's does.
func (m *Machine) Snap() machine.Snap {
	if !m.made() {
		return machine.Snap{}
	}
	s := machine.Snap{Outcome: m.outcome, PC: m.pc, CP: m.cp, E: m.e, B: len(m.choices), Cells: m.cells.Cells(), Trail: slices.Clone(m.trail)}
	known := m.report.States[m.pc]
	if known.Neck {
		s.B0 = m.b0
	}
	if known.Left != 0 {
		s.Write = m.write
	}
	if known.Left != 0 && !m.write {
		s.S = m.s
	}
	for x, c := range m.x {
		if known.X&(1<<x) != 0 {
			s.X[x] = c
		}
	}
	for y, has := range known.Y {
		if has == verify.Term || has == verify.Level {
			s.Y[y] = uint64(m.words[m.place(y)])
		}
	}
	return s
}
