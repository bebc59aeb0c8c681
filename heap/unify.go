package heap

import (
	"resolvent/api"
	"resolvent/cell"
)

// maxPairs is how many pairs Unify goes through: so it ends with terms within themselves too.
const maxPairs = 4096

// span is pairs that are still to come: the cells in two places, and in so many behind them.
type span struct {
	left, right, n int
}

// Unify makes what two cells mean one.
func (h *Heap) Unify(a, b cell.Cell) (bool, api.Errno) {
	if h == nil {
		return false, api.ErrArg
	}
	var rest []span
	for range maxPairs {
		parts, one, e := h.pair(a, b)
		if !one {
			return false, e
		}
		if parts.n > 0 {
			rest = append(rest, parts)
		}
		if len(rest) == 0 {
			return true, api.OK
		}
		a, b, rest = h.next(rest)
	}
	return false, api.ErrFull
}

// next answers the leftmost pair of the last span, and the spans without it.
func (h *Heap) next(rest []span) (a, b cell.Cell, left []span) {
	top := &rest[len(rest)-1]
	a, _ = h.cells.Get(top.left)
	b, _ = h.cells.Get(top.right)
	top.left, top.right, top.n = top.left+1, top.right+1, top.n-1
	if top.n == 0 {
		rest = rest[:len(rest)-1]
	}
	return a, b, rest
}

// pair goes through one pair; it answers the pairs of its parts.
func (h *Heap) pair(a, b cell.Cell) (parts span, one bool, e api.Errno) {
	l, there := h.Deref(a)
	r, too := h.Deref(b)
	if !there || !too {
		return span{}, false, api.ErrArg
	}
	if l == r {
		return span{}, true, api.OK
	}
	if l.Kind() == cell.Ref || r.Kind() == cell.Ref {
		h.join(l, r)
		return span{}, true, api.OK
	}
	if l.Kind() != r.Kind() {
		return span{}, false, api.OK
	}
	switch l.Kind() {
	case cell.Con:
		return span{}, h.sameName(l, r), api.OK
	case cell.Str:
		if !h.sameFun(l, r) {
			return span{}, false, api.OK
		}
	}
	return h.span(l, r)
}

// join binds a variable to the other cell; of two variables the one in the greater place, so that Undo takes away no place to which a variable that stays was bound.
func (h *Heap) join(l, r cell.Cell) {
	if l.Kind() != cell.Ref || r.Kind() == cell.Ref && r.Number() > l.Number() {
		l, r = r, l
	}
	h.bind(l.Number(), r)
}

// sameName goes by names, not by their numbers, as With may have been given a name twice.
func (h *Heap) sameName(l, r cell.Cell) bool {
	a, there := h.atoms.name(l.Number())
	b, too := h.atoms.name(r.Number())
	return there && too && a == b
}

// sameFun is sameName of two Strs.
func (h *Heap) sameFun(l, r cell.Cell) bool {
	a, there := h.fun(l.Number())
	b, too := h.fun(r.Number())
	return there && too && a == b
}

// span answers the pairs of two cells' parts; both are of one kind and one Fun, so these are as many.
func (h *Heap) span(l, r cell.Cell) (parts span, one bool, e api.Errno) {
	left, n, ok := h.parts(l)
	right, _, too := h.parts(r)
	if !ok || !too {
		return span{}, false, api.ErrArg
	}
	return span{left, right, n}, true, api.OK
}
