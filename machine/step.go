package machine

import (
	"resolvent/cell"
	"resolvent/code"
)

// What comes of an instruction, beside an outcome. (With Running PC is where it is to be already.)
const (
	onward  = -1 // it goes on behind it
	failing = -2 // it fails
)

// follow goes on as an instruction said, and answers the outcome.
func (m *Machine) follow(course int) int {
	switch course {
	case onward:
		m.pc++
		return Running
	case failing:
		return m.fail()
	}
	return course
}

// do does the instruction at PC.
func (m *Machine) do() int {
	if !m.has(m.pc) {
		return Stuck
	}
	i := m.code[m.pc]
	switch i.Op {
	case code.GetVar, code.GetVal, code.GetCon, code.GetStr, code.GetLis:
		return m.doGet(i)
	case code.UniVar, code.UniVal, code.UniCon, code.UniVoid:
		return m.doUni(i)
	case code.PutVar, code.PutVal, code.PutCon, code.PutStr, code.PutLis:
		return m.doPut(i)
	case code.Try, code.Retry, code.Trust, code.NeckCut, code.GetLevel, code.Cut:
		return m.doChoice(i)
	}
	return m.doGo(i)
}

// doGet does what looks at an argument.
func (m *Machine) doGet(i code.Instr) int {
	a, b := i.A[0], i.A[1]
	switch i.Op {
	case code.GetVar:
		return m.pull(a, b)
	case code.GetVal:
		return m.getVal(a, b)
	case code.GetCon:
		return m.getCon(cell.Make(cell.Con, a), b)
	case code.GetStr:
		return m.getStr(cell.Make(cell.Fun, a), b)
	}
	return m.getLis(a)
}

// doUni does what is for parts.
func (m *Machine) doUni(i code.Instr) int {
	a := i.A[0]
	switch i.Op {
	case code.UniVar:
		return m.uniVar(a)
	case code.UniVal:
		return m.uniVal(a)
	case code.UniCon:
		return m.uniCon(cell.Make(cell.Con, a))
	}
	return m.uniVoid(a)
}

// doPut does what makes an argument.
func (m *Machine) doPut(i code.Instr) int {
	a, b := i.A[0], i.A[1]
	switch i.Op {
	case code.PutVar:
		return m.putVar(a, b)
	case code.PutVal:
		return m.pull(b, a)
	case code.PutCon:
		return m.put(cell.Make(cell.Con, a), b)
	case code.PutStr:
		return m.putStr(cell.Make(cell.Fun, a), b)
	}
	return m.put(m.newLis(), a)
}

// doChoice does what makes other ways, and takes them away.
func (m *Machine) doChoice(i code.Instr) int {
	a := i.A[0]
	switch i.Op {
	case code.Try:
		return m.try(a)
	case code.Retry:
		return m.retry(a)
	case code.Trust:
		return m.trust()
	case code.NeckCut:
		return m.cut(m.b0)
	case code.GetLevel:
		return m.getLevel(a)
	}
	return m.cutTo(a)
}

// doGo does what goes elsewhere, and what it needs for that.
func (m *Machine) doGo(i code.Instr) int {
	a := i.A[0]
	switch i.Op {
	case code.Fail:
		return failing
	case code.Allocate:
		return m.allocate(a)
	case code.Deallocate:
		return m.deallocate()
	case code.Call:
		m.cp = m.pc + 1
		return m.execute(a)
	case code.Execute:
		return m.execute(a)
	case code.Proceed:
		return m.proceed()
	case code.Switch:
		return m.choose(i)
	}
	return Stuck
}

func (m *Machine) execute(pred int) int {
	if pred >= len(m.preds) {
		return Stuck
	}
	m.b0 = len(m.choices)
	return m.enter(m.preds[pred].Entry)
}

func (m *Machine) proceed() int {
	if m.cp < 0 {
		return Success
	}
	return m.enter(m.cp)
}

// choose goes where a switch has what X0 leads to.
func (m *Machine) choose(i code.Instr) int {
	d, ok := m.look(0)
	if !ok {
		return Stuck
	}
	// Where each kind of cell has its Label.
	labels := [4]int{cell.Ref: 0, cell.Con: 1, cell.Lis: 2, cell.Str: 3}
	if d.Kind() >= len(labels) {
		return Stuck
	}
	to := i.A[labels[d.Kind()]]
	switch {
	case to == code.Nowhere:
		return failing
	case !m.has(to):
		return Stuck
	}
	m.pc = to
	return Running
}

// has tells whether there is an instruction in a place.
func (m *Machine) has(pc int) bool { return pc >= 0 && pc < len(m.code) }

// enter goes to a place from which on there must be room up to the next boundary, and answers the outcome.
func (m *Machine) enter(pc int) int {
	next, ok := m.next()
	if !ok || !m.has(pc) {
		return Stuck
	}
	m.pc = pc
	need := m.report.Needs[pc]
	if m.room.Cells-len(m.store.cells) < need.Cells || next+need.Words > m.room.Words || len(m.choices)+need.Choices > m.room.Choices {
		return Full
	}
	return Running
}
