package fast_test

import (
	"testing"

	"resolvent/api"
	"resolvent/asm"
	"resolvent/cell"
	"resolvent/fast"
	"resolvent/machine"
)

// P13.1: the document's example. (All else that this layer promises is held, beside package machine's, by package sidebyside.)
func TestExample(t *testing.T) {
	o, _, _ := asm.Program("pred p/1", "getcon a X0", "proceed")
	m, e := fast.New(o, 0, machine.Room{Cells: 1})
	if e != api.OK {
		t.Fatal(e.Word())
	}
	if a, b := m.Step(), m.Step(); a != machine.Running || b != machine.Success {
		t.Error(a, b)
	}
	want := machine.Snap{Outcome: machine.Success, PC: 1, CP: -1, E: -1, Cells: []cell.Cell{cell.Make(cell.Con, 0)}}
	if s := m.Snap(); !machine.Same(s, want) {
		t.Error(s)
	}
	if m.Again() || m.Snap().Outcome != machine.Failure || m.Step() != machine.Failure {
		t.Error(m.Snap())
	}
}
