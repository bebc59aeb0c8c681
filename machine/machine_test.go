package machine_test

import (
	"testing"

	"resolvent/api"
	"resolvent/asm"
	"resolvent/machine"
	"resolvent/term"
)

// P12.1: the document's example. (All else that this layer promises is held, beside package fast's, by package sidebyside.)
func TestExample(t *testing.T) {
	o, _, _ := asm.Program("pred p/1", "getcon a X0", "proceed")
	m, e := machine.New(o, 0, machine.Room{Cells: 1})
	if e != api.OK {
		t.Fatal(e.Word())
	}
	if a, b := m.Step(), m.Step(); a != machine.Running || b != machine.Success {
		t.Error(a, b)
	}
	if x, e := m.Read(0); e != api.OK || term.Text(x) != "a" {
		t.Error(term.Text(x), e.Word())
	}
	if m.Again() || m.Snap().Outcome != machine.Failure || m.Step() != machine.Failure {
		t.Error(m.Snap())
	}
}

// P12.1: the outcomes' numbers.
func TestOutcomes(t *testing.T) {
	if l := [5]int{machine.Running, machine.Success, machine.Failure, machine.Full, machine.Stuck}; l != [5]int{0, 1, 2, 3, 4} {
		t.Error(l)
	}
}
