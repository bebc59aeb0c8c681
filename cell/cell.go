// Package cell is layer 1: what a heap has in each place: see shared/doc/01-cell.md.
package cell

import (
	"strconv"

	"resolvent/api"
)

// Cell is a kind and a number.
type Cell uint64

// The kinds.
const (
	Ref = 0
	Str = 1
	Con = 2
	Lis = 3
	Fun = 4
)

const kinds = 5

// The lowest bits hold the kind, those above them the number.
const (
	kindBits      = 3
	kindMask Cell = 1<<kindBits - 1
)

// wrong is no cell's bits, as its kind would be above Fun: so what Make refuses is never Right.
const wrong Cell = 1<<64 - 1

// Make answers the cell of a kind and a number.
func Make(kind, number int) Cell {
	if kind < 0 || kind >= kinds || number < 0 || number >= api.MaxNumber {
		return wrong
	}
	return Cell(number)<<kindBits | Cell(kind)
}

// Right tells whether Make makes it.
func (c Cell) Right() bool {
	return c&kindMask < kinds && c>>kindBits < api.MaxNumber
}

// Kind is what Make was given first.
func (c Cell) Kind() int {
	if !c.Right() {
		return -1
	}
	return int(c & kindMask)
}

// Number is what Make was given second.
func (c Cell) Number() int {
	if !c.Right() {
		return -1
	}
	return int(c >> kindBits)
}

// Text is the cell in words.
func (c Cell) Text() string {
	if !c.Right() {
		return "none"
	}
	words := [kinds]string{"ref", "str", "con", "lis", "fun"}
	return words[c.Kind()] + " " + strconv.Itoa(c.Number())
}
