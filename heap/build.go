package heap

import (
	"resolvent/cell"
	"resolvent/term"
)

// Build lays a term as cells behind the others, and answers the cell that means it.
func (h *Heap) Build(t term.Term) (cell.Cell, bool) {
	if h == nil || !term.Right(t) {
		return 0, false
	}
	top := h.cells.Top()
	c, ok := h.build(t)
	if !ok {
		h.cut(top)
		return 0, false
	}
	return c, true
}

func (h *Heap) build(t term.Term) (cell.Cell, bool) {
	switch t.Kind {
	case term.Var:
		return h.buildVar(t.N)
	case term.Con:
		return cell.Make(cell.Con, h.atoms.number(t.Name)), true
	}
	parts := make([]cell.Cell, len(t.Args))
	for i, part := range t.Args {
		c, ok := h.build(part)
		if !ok {
			return 0, false
		}
		parts[i] = c
	}
	at, kind := h.cells.Top(), cell.Lis
	if t.Kind == term.Str {
		kind = cell.Str
		if !h.Push(cell.Make(cell.Fun, h.funs.number(Fun{t.Name, len(t.Args)}))) {
			return 0, false
		}
	}
	for _, c := range parts {
		if !h.Push(c) {
			return 0, false
		}
	}
	return cell.Make(kind, at), true
}

// buildVar answers the Ref to a variable's place; the first time that is a new one.
func (h *Heap) buildVar(n int) (cell.Cell, bool) {
	at, there := h.places[n]
	if !there {
		at = h.cells.Top()
		if !h.Push(variable(at)) {
			return 0, false
		}
		h.places[n] = at
	}
	return variable(at), true
}
