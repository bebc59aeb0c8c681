package fast

import "resolvent/cell"

// maxPairs is how many pairs unify goes through, as layer 5's Unify does.
const maxPairs = 4096

// span is pairs that are still to come: the cells in two places, and in so many behind them.
type span struct {
	left, right, n int
}

// unify makes what two cells mean one, bit by bit as layer 5's Unify does.
func (m *Machine) unify(a, b cell.Cell) int {
	var rest []span
	for range maxPairs {
		parts, fit := m.pair(m.deref(a), m.deref(b))
		if !fit {
			return other
		}
		if parts.n > 0 {
			rest = append(rest, parts)
		}
		if len(rest) == 0 {
			return one
		}
		top := &rest[len(rest)-1]
		a, b = m.cells.At(top.left), m.cells.At(top.right)
		top.left, top.right, top.n = top.left+1, top.right+1, top.n-1
		if top.n == 0 {
			rest = rest[:len(rest)-1]
		}
	}
	return full
}

// pair goes through one pair, of cells that lead no further, and answers the pairs of its parts; false: they can't be made one.
func (m *Machine) pair(l, r cell.Cell) (parts span, fit bool) {
	switch {
	case l == r:
		return span{}, true
	case l.Kind() == cell.Ref || r.Kind() == cell.Ref:
		m.join(l, r)
		return span{}, true
	case l.Kind() != r.Kind() || l.Kind() == cell.Con:
		return span{}, false
	case l.Kind() == cell.Lis:
		return span{l.Number(), r.Number(), 2}, true
	}
	fun := m.cells.At(l.Number())
	if fun != m.cells.At(r.Number()) {
		return span{}, false
	}
	return span{l.Number() + 1, r.Number() + 1, m.arities[fun.Number()]}, true
}

// join binds a variable to the other cell; of two variables the one in the greater place, so that what stays is never bound to what Undo takes away.
func (m *Machine) join(l, r cell.Cell) {
	if l.Kind() != cell.Ref || r.Kind() == cell.Ref && r > l {
		l, r = r, l
	}
	m.bind(l.Number(), r)
}
