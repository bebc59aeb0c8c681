package machine

import (
	"resolvent/api"
	"resolvent/cell"
)

// pull lets one Reg have what another one has.
func (m *Machine) pull(to, from int) int {
	c, ok := m.get(from)
	if !ok || !m.set(to, c) {
		return Stuck
	}
	return onward
}

// unify makes two cells one.
func (m *Machine) unify(a, b cell.Cell) int {
	one, e := m.store.unify(a, b)
	switch {
	case e == api.ErrFull:
		return Full
	case e != api.OK:
		return Stuck
	case !one:
		return failing
	}
	return onward
}

func (m *Machine) getVal(r, a int) int {
	c, ok := m.get(r)
	d, too := m.get(a)
	if !ok || !too {
		return Stuck
	}
	return m.unify(c, d)
}

// look answers what the cell of a register leads to.
func (m *Machine) look(a int) (cell.Cell, bool) {
	c, ok := m.get(a)
	if !ok {
		return 0, false
	}
	return m.store.heap.Deref(c)
}

// bind binds a variable, of which v is the Ref.
func (m *Machine) bind(v, c cell.Cell) int {
	if !m.store.bind(v, c) {
		return Stuck
	}
	return onward
}

func (m *Machine) getCon(con cell.Cell, a int) int {
	c, ok := m.get(a)
	if !ok {
		return Stuck
	}
	return m.matchCon(con, c)
}

// matchCon lets c be a name: a variable is bound to it, all else must be it.
func (m *Machine) matchCon(con, c cell.Cell) int {
	d, ok := m.store.heap.Deref(c)
	switch {
	case !ok:
		return Stuck
	case d.Kind() == cell.Ref:
		return m.bind(d, con)
	case d != con:
		return failing
	}
	return onward
}

// getStr begins with the parts of a structure: of a new one, that a variable is bound to, or of one that is there.
func (m *Machine) getStr(fun cell.Cell, a int) int {
	d, ok := m.look(a)
	if !ok {
		return Stuck
	}
	switch d.Kind() {
	case cell.Ref:
		str, ok := m.newStr(fun)
		if !ok {
			return Stuck
		}
		return m.bind(d, str)
	case cell.Str:
		return m.readStr(fun, d.Number())
	}
	return failing
}

// newStr lays a Fun, behind which its parts are to be written, and answers the Str that they are going to be.
func (m *Machine) newStr(fun cell.Cell) (cell.Cell, bool) {
	str := cell.Make(cell.Str, len(m.store.cells))
	m.write = true
	return str, m.store.push(fun)
}

// readStr goes on with the parts of the structure in a place, if it is of that Fun.
func (m *Machine) readStr(fun cell.Cell, at int) int {
	there, ok := m.store.at(at)
	switch {
	case !ok:
		return Stuck
	case there != fun:
		return failing
	}
	m.write, m.s = false, at+1
	return onward
}

// getLis is getStr of a list.
func (m *Machine) getLis(a int) int {
	d, ok := m.look(a)
	if !ok {
		return Stuck
	}
	switch d.Kind() {
	case cell.Ref:
		return m.bind(d, m.newLis())
	case cell.Lis:
		m.write, m.s = false, d.Number()
		return onward
	}
	return failing
}

// newLis answers the Lis that the parts are going to be, which are to be written next.
func (m *Machine) newLis() cell.Cell {
	m.write = true
	return cell.Make(cell.Lis, len(m.store.cells))
}

func (m *Machine) uniVar(r int) int {
	c, ok := m.varPart()
	if !ok || !m.set(r, c) {
		return Stuck
	}
	return onward
}

// varPart answers the next part: a new variable, or as it stands there.
func (m *Machine) varPart() (cell.Cell, bool) {
	if m.write {
		return m.store.pushVar()
	}
	return m.store.at(m.pass(1))
}

// pass goes past parts that are there, and answers the first one's place.
func (m *Machine) pass(n int) int {
	at := m.s
	m.s += n
	return at
}

// part answers a cell that means the next part, which is there.
func (m *Machine) part() cell.Cell { return cell.Make(cell.Ref, m.pass(1)) }

func (m *Machine) uniVal(r int) int {
	c, ok := m.get(r)
	switch {
	case !ok:
		return Stuck
	case m.write:
		return m.lay(c)
	}
	return m.unify(c, m.part())
}

func (m *Machine) uniCon(con cell.Cell) int {
	if m.write {
		return m.lay(con)
	}
	return m.matchCon(con, m.part())
}

// lay writes a part.
func (m *Machine) lay(c cell.Cell) int {
	if !m.store.push(c) {
		return Stuck
	}
	return onward
}

func (m *Machine) uniVoid(n int) int {
	if !m.write {
		m.pass(n)
		return onward
	}
	for range n {
		if _, ok := m.store.pushVar(); !ok {
			return Stuck
		}
	}
	return onward
}

func (m *Machine) putVar(r, a int) int {
	v, ok := m.store.pushVar()
	if !ok || !m.set(r, v) || !m.set(a, v) {
		return Stuck
	}
	return onward
}

// put lets a register have a cell.
func (m *Machine) put(c cell.Cell, a int) int {
	if !m.set(a, c) {
		return Stuck
	}
	return onward
}

func (m *Machine) putStr(fun cell.Cell, a int) int {
	str, ok := m.newStr(fun)
	if !ok {
		return Stuck
	}
	return m.put(str, a)
}
