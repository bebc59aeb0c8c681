package heap

import (
	"maps"
	"slices"

	"resolvent/cell"
)

// mark is how many cells there were, and how long the trail was.
type mark struct {
	cells, trail int
}

// Marks is how many marks there are.
func (h *Heap) Marks() int {
	if h == nil {
		return 0
	}
	return len(h.marks)
}

// Trail answers the places of what was bound, and is to be undone.
func (h *Heap) Trail() []int {
	if h == nil {
		return nil
	}
	return slices.Clone(h.trail)
}

// Mark keeps how all is, for Undo.
func (h *Heap) Mark() {
	if h == nil {
		return
	}
	h.marks = append(h.marks, mark{cells: h.cells.Top(), trail: len(h.trail)})
}

// Undo goes back to the last mark, which stays.
func (h *Heap) Undo() bool {
	if h.Marks() == 0 {
		return false
	}
	last := h.marks[len(h.marks)-1]
	for _, at := range h.trail[last.trail:] {
		h.cells.Set(at, variable(at))
	}
	h.trail = h.trail[:last.trail]
	h.cut(last.cells)
	return true
}

// Drop takes the last mark away. The trail stays, as the mark ahead of it needs it.
func (h *Heap) Drop() bool {
	if h.Marks() == 0 {
		return false
	}
	h.marks = h.marks[:len(h.marks)-1]
	return true
}

// cut keeps the first cells alone, and the variables' numbers whose places these are.
func (h *Heap) cut(cells int) {
	h.cells.Cut(cells)
	maps.DeleteFunc(h.places, func(_, at int) bool { return at >= cells })
}

// variable is the cell of a variable in a place.
func variable(at int) cell.Cell { return cell.Make(cell.Ref, at) }

// Bind lets a variable be bound to a cell.
func (h *Heap) Bind(at int, c cell.Cell) bool {
	if h == nil || !c.Right() {
		return false
	}
	had, there := h.cells.Get(at)
	if !there || had != variable(at) {
		return false
	}
	h.bind(at, c)
	return true
}

// bind is Bind where a variable is known to stand. A place behind the last mark needs no trail, as Undo takes it away.
func (h *Heap) bind(at int, c cell.Cell) {
	h.cells.Set(at, c)
	if last := len(h.marks) - 1; last >= 0 && at < h.marks[last].cells {
		h.trail = append(h.trail, at)
	}
}
