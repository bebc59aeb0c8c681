package fast

import (
	"resolvent/cell"
	"resolvent/code"
	"resolvent/machine"
)

// step does the instruction at PC.
func (m *Machine) step() {
	i := m.code[m.pc]
	switch i.Op {
	case code.Fail, code.Call, code.Execute, code.Proceed, code.Switch:
		m.leave(i)
	case code.GetVal, code.GetCon, code.GetStr, code.GetLis, code.UniVal, code.UniCon:
		m.settle(m.match(i))
	case code.GetVar, code.UniVar, code.UniVoid, code.PutVar, code.PutVal, code.PutCon, code.PutStr, code.PutLis:
		m.fill(i)
		m.pc++
	default:
		m.keep(i)
		m.pc++
	}
}

// leave does what doesn't go on behind itself.
func (m *Machine) leave(i code.Instr) {
	switch i.Op {
	case code.Fail:
		m.fail()
	case code.Call:
		m.cp = m.pc + 1
		m.execute(i.A[0])
	case code.Execute:
		m.execute(i.A[0])
	case code.Proceed:
		m.proceed()
	case code.Switch:
		m.choose(i)
	}
}

func (m *Machine) execute(pred int) {
	m.b0 = len(m.choices)
	m.enter(m.entries[pred])
}

func (m *Machine) proceed() {
	if m.cp < 0 {
		m.outcome = machine.Success
		return
	}
	m.enter(m.cp)
}

// choose goes where a switch has what X0 leads to.
func (m *Machine) choose(i code.Instr) {
	// Where each kind of cell has its Label.
	labels := [4]int{cell.Ref: 0, cell.Con: 1, cell.Lis: 2, cell.Str: 3}
	to := i.A[labels[m.deref(m.x[0]).Kind()]]
	if to == code.Nowhere {
		m.fail()
		return
	}
	m.pc = to
}

// enter goes to a place, if there is room for all that comes from there on up to the next boundary.
func (m *Machine) enter(pc int) {
	m.pc, m.outcome = pc, machine.Running
	need := m.report.Needs[pc]
	if m.cells.Free() < need.Cells || m.next()+need.Words > m.room.Words || len(m.choices)+need.Choices > m.room.Choices {
		m.outcome = machine.Full
	}
}

// fill does what lets a register, or parts, be something, whatever there was.
func (m *Machine) fill(i code.Instr) {
	a, b := i.A[0], i.A[1]
	switch i.Op {
	case code.GetVar:
		m.set(a, m.x[b])
	case code.UniVar:
		m.uniVar(a)
	case code.UniVoid:
		m.uniVoid(a)
	case code.PutVar:
		v := m.addVar()
		m.set(a, v)
		m.x[b] = v
	case code.PutVal:
		m.x[b] = m.get(a)
	case code.PutCon:
		m.x[b] = cell.Make(cell.Con, a)
	case code.PutStr:
		m.x[b] = m.addStr(a)
	case code.PutLis:
		m.x[a] = m.newLis()
	}
}

// keep does what goes to the rows of environments and choices.
func (m *Machine) keep(i code.Instr) {
	a := i.A[0]
	switch i.Op {
	case code.Allocate:
		m.allocate(a)
	case code.Deallocate:
		m.e, m.cp = m.words[m.e+wordE], m.words[m.e+wordCP]
	case code.Try:
		m.try(a)
	case code.Retry:
		m.choices[len(m.choices)-1].other = a
	case code.Trust:
		m.cut(len(m.choices) - 1)
	case code.NeckCut:
		m.cut(m.b0)
	case code.GetLevel:
		m.words[m.place(a)] = m.b0
	case code.Cut:
		m.cut(m.words[m.place(a)])
	}
}
