// Package area is layer 2: rows of cells with an end: see shared/doc/02-area.md.
package area

import (
	"slices"

	"resolvent/api"
	"resolvent/cell"
)

// Area is a row of cells, and room for so many.
type Area struct {
	cells []cell.Cell
	room  int
}

// Raw goes to an Area's cells without a look, for callers that know already that a place is there. All else it does as the Area that it embeds.
type Raw struct {
	*Area
}

// New answers an empty row. Its memory grows with its cells, as most rows stay far below their room.
func New(room int) (*Area, api.Errno) {
	if room < 0 || room > api.MaxCells {
		return nil, api.ErrArg
	}
	return &Area{room: room}, api.OK
}

// Top is how many cells there are.
func (a *Area) Top() int {
	if a == nil {
		return 0
	}
	return len(a.cells)
}

// Free is how many more cells there may be.
func (a *Area) Free() int {
	if a == nil {
		return 0
	}
	return a.room - len(a.cells)
}

// has goes by Top, so that a nil Area has no place.
func (a *Area) has(i int) bool { return i >= 0 && i < a.Top() }

// Push lays a cell behind the others.
func (a *Area) Push(c cell.Cell) bool {
	if a.Free() < 1 || !c.Right() {
		return false
	}
	a.cells = append(a.cells, c)
	return true
}

// Get answers the cell in a place.
func (a *Area) Get(i int) (cell.Cell, bool) {
	if !a.has(i) {
		return 0, false
	}
	return a.cells[i], true
}

// Set lays another cell into a place.
func (a *Area) Set(i int, c cell.Cell) bool {
	if !a.has(i) || !c.Right() {
		return false
	}
	a.cells[i] = c
	return true
}

// Cut keeps no more than the first n cells.
func (a *Area) Cut(n int) bool {
	if a == nil || n < 0 || n > len(a.cells) {
		return false
	}
	a.cells = a.cells[:n]
	return true
}

// Cells answers a copy, so that nobody comes past Set to what the row has.
func (a *Area) Cells() []cell.Cell {
	if a == nil {
		return nil
	}
	return slices.Clone(a.cells)
}

// At is Get without a look.
func (r Raw) At(i int) cell.Cell { return r.cells[i] }

// Put is Set without a look.
func (r Raw) Put(i int, c cell.Cell) { r.cells[i] = c }

// Add is Push without a look; it answers the place where.
func (r Raw) Add(c cell.Cell) int {
	r.cells = append(r.cells, c)
	return len(r.cells) - 1
}
