package machine

import (
	"resolvent/api"
	"resolvent/cell"
	"resolvent/heap"
)

// store is the Heap, and what stands in each of its places. Layer 5 tells of a place only by copying all of them, which at each step would cost as much as there are.
type store struct {
	heap  *heap.Heap
	cells []cell.Cell // as many as the Heap has
	stale bool        // what stands in some of them the Heap alone knows
	tops  []int       // of each mark how many cells there were
}

// push lays a cell behind the others.
func (s *store) push(c cell.Cell) bool {
	if !s.heap.Push(c) {
		return false
	}
	s.cells = append(s.cells, c)
	return true
}

// pushVar lays a new variable behind the others, and answers the Ref to it.
func (s *store) pushVar() (cell.Cell, bool) {
	v := cell.Make(cell.Ref, len(s.cells))
	return v, s.push(v)
}

// bind binds a variable, of which v is the Ref.
func (s *store) bind(v, c cell.Cell) bool {
	at := v.Number()
	if !s.heap.Bind(at, c) {
		return false
	}
	s.cells[at] = c
	return true
}

// unify may bind any places, and doesn't tell which.
func (s *store) unify(a, b cell.Cell) (bool, api.Errno) {
	s.stale = true
	return s.heap.Unify(a, b)
}

// at answers the cell in a place, as it stands there.
func (s *store) at(place int) (cell.Cell, bool) {
	if place < 0 || place >= len(s.cells) {
		return 0, false
	}
	if s.stale {
		s.cells, s.stale = s.heap.Cells(), false
	}
	return s.cells[place], true
}

func (s *store) mark() {
	s.heap.Mark()
	s.tops = append(s.tops, len(s.cells))
}

// undo goes back to the last mark, which stays.
func (s *store) undo() bool {
	if !s.heap.Undo() {
		return false
	}
	s.cells, s.stale = s.cells[:s.tops[len(s.tops)-1]], true
	return true
}

// drop takes the last mark away.
func (s *store) drop() bool {
	if !s.heap.Drop() {
		return false
	}
	s.tops = s.tops[:len(s.tops)-1]
	return true
}
