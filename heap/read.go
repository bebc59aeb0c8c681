package heap

import (
	"resolvent/api"
	"resolvent/cell"
	"resolvent/term"
)

// What a term that is read has at most.
const (
	maxParts = 10000
	maxPlace = 999
)

// Read answers the term that a cell means.
func (h *Heap) Read(c cell.Cell) (term.Term, api.Errno) {
	if h == nil {
		return term.Term{}, api.ErrArg
	}
	l := look{heap: h, sizes: map[cell.Cell]int{}}
	size, e := l.size(c)
	if e != api.OK {
		return term.Term{}, e
	}
	if size > maxParts || l.far {
		return term.Term{}, api.ErrFull
	}
	return h.tree(c), api.OK
}

// tree writes out what a cell means, of which it is known that it ends, and soon.
func (h *Heap) tree(c cell.Cell) term.Term {
	c, _ = h.Deref(c)
	var t term.Term
	switch c.Kind() {
	case cell.Ref:
		return term.Term{Kind: term.Var, N: c.Number()}
	case cell.Con:
		name, _ := h.atoms.name(c.Number())
		return term.Term{Kind: term.Con, Name: name}
	case cell.Str:
		f, _ := h.fun(c.Number())
		t = term.Term{Kind: term.Str, Name: f.Name}
	case cell.Lis:
		t = term.Term{Kind: term.Lis}
	}
	from, n, _ := h.parts(c)
	t.Args = make([]term.Term, n)
	for i := range t.Args {
		part, _ := h.cells.Get(from + i)
		t.Args[i] = h.tree(part)
	}
	return t
}

// look goes through all that a cell means ahead of writing it, and through each cell once: parts that are there often may make a small heap's term greater than any memory.
type look struct {
	heap  *Heap
	sizes map[cell.Cell]int
	far   bool // a variable's place is beyond maxPlace
}

// open is the size of a cell whose parts are being gone through.
const open = -1

// size is how many parts the term of a cell has; maxParts+1 stands for all that is greater.
func (l *look) size(c cell.Cell) (int, api.Errno) {
	size, seen := l.sizes[c]
	if seen && size == open {
		return 0, api.ErrCycle
	}
	if seen {
		return size, api.OK
	}
	l.sizes[c] = open
	size, e := l.count(c)
	l.sizes[c] = size
	return size, e
}

func (l *look) count(c cell.Cell) (int, api.Errno) {
	switch c.Kind() {
	case cell.Ref:
		return l.ref(c)
	case cell.Con:
		if _, there := l.heap.atoms.name(c.Number()); !there {
			return 0, api.ErrArg
		}
		return 1, api.OK
	}
	from, n, ok := l.heap.parts(c)
	if !ok {
		return 0, api.ErrArg
	}
	size := 1
	for i := range n {
		part, _ := l.heap.cells.Get(from + i)
		more, e := l.size(part)
		if e != api.OK {
			return 0, e
		}
		size = min(size+more, maxParts+1)
	}
	return size, api.OK
}

// ref is count of a Ref: of a variable 1, else as the cell that it leads to.
func (l *look) ref(c cell.Cell) (int, api.Errno) {
	next, there := l.heap.cells.Get(c.Number())
	if !there {
		return 0, api.ErrArg
	}
	if next != c {
		return l.size(next)
	}
	l.far = l.far || c.Number() > maxPlace
	return 1, api.OK
}
