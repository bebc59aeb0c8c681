package fast

import (
	"resolvent/api"
	"resolvent/cell"
	"resolvent/code"
	"resolvent/machine"
)

// How two come to be one.
const (
	one = iota
	other
	full // too many pairs were gone through
)

// settle goes on behind what was to come to be one.
func (m *Machine) settle(come int) {
	switch come {
	case one:
		m.pc++
	case other:
		m.fail()
	case full:
		m.outcome = machine.Full
	}
}

// match does what makes something one with what is there.
func (m *Machine) match(i code.Instr) int {
	a, b := i.A[0], i.A[1]
	switch i.Op {
	case code.GetVal:
		return m.unify(m.get(a), m.x[b])
	case code.GetCon:
		return m.matchCon(cell.Make(cell.Con, a), m.x[b])
	case code.GetStr:
		return m.getStr(a, b)
	case code.GetLis:
		return m.getLis(a)
	case code.UniVal:
		return m.uniVal(m.get(a))
	}
	return m.uniCon(cell.Make(cell.Con, a))
}

// get answers what a Reg has.
func (m *Machine) get(r int) cell.Cell {
	if r < api.MaxX {
		return m.x[r]
	}
	return cell.Cell(m.words[m.place(r-api.MaxX)])
}

// set lets a Reg have a cell.
func (m *Machine) set(r int, c cell.Cell) {
	if r < api.MaxX {
		m.x[r] = c
		return
	}
	m.words[m.place(r-api.MaxX)] = int(c)
}

// deref answers what a cell leads to.
func (m *Machine) deref(c cell.Cell) cell.Cell {
	for c.Kind() == cell.Ref {
		next := m.cells.At(c.Number())
		if next == c {
			break
		}
		c = next
	}
	return c
}

// bind binds the variable in a place. Undo needs to know that of those alone which stay.
func (m *Machine) bind(at int, c cell.Cell) {
	m.cells.Put(at, c)
	if last := len(m.choices) - 1; last >= 0 && at < m.choices[last].cells {
		m.trail = append(m.trail, at)
	}
}

func (m *Machine) addVar() cell.Cell {
	v := cell.Make(cell.Ref, m.cells.Top())
	m.cells.Add(v)
	return v
}

// addStr begins a structure, of which the parts are to be written next.
func (m *Machine) addStr(fun int) cell.Cell {
	m.write = true
	return cell.Make(cell.Str, m.cells.Add(cell.Make(cell.Fun, fun)))
}

// newLis is addStr of a list.
func (m *Machine) newLis() cell.Cell {
	m.write = true
	return cell.Make(cell.Lis, m.cells.Top())
}

// read begins with the parts that are there from a place on.
func (m *Machine) read(at int) { m.write, m.s = false, at }

// part answers the next part that is there.
func (m *Machine) part() cell.Cell {
	at := m.s
	m.s++
	return m.cells.At(at)
}

func (m *Machine) matchCon(con, c cell.Cell) int {
	d := m.deref(c)
	switch {
	case d.Kind() == cell.Ref:
		m.bind(d.Number(), con)
	case d != con:
		return other
	}
	return one
}

func (m *Machine) getStr(fun, a int) int {
	d := m.deref(m.x[a])
	switch {
	case d.Kind() == cell.Ref:
		m.bind(d.Number(), m.addStr(fun))
	case d.Kind() != cell.Str || m.cells.At(d.Number()) != cell.Make(cell.Fun, fun):
		return other
	default:
		m.read(d.Number() + 1)
	}
	return one
}

func (m *Machine) getLis(a int) int {
	d := m.deref(m.x[a])
	switch d.Kind() {
	case cell.Ref:
		m.bind(d.Number(), m.newLis())
	case cell.Lis:
		m.read(d.Number())
	default:
		return other
	}
	return one
}

func (m *Machine) uniVal(c cell.Cell) int {
	if m.write {
		m.cells.Add(c)
		return one
	}
	return m.unify(c, m.part())
}

func (m *Machine) uniCon(con cell.Cell) int {
	if m.write {
		m.cells.Add(con)
		return one
	}
	return m.matchCon(con, m.part())
}

func (m *Machine) uniVar(r int) {
	if m.write {
		m.set(r, m.addVar())
		return
	}
	m.set(r, m.part())
}

func (m *Machine) uniVoid(n int) {
	if !m.write {
		m.s += n
		return
	}
	for range n {
		m.addVar()
	}
}
