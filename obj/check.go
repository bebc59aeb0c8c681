package obj

import (
	"resolvent/api"
	"resolvent/code"
	"resolvent/heap"
	"resolvent/term"
)

// Check answers what is wrong first.
func Check(o Object) api.Errno {
	switch {
	case full(len(o.Names.Atoms), len(o.Names.Funs), len(o.Preds), len(o.Code)):
		return api.ErrFull
	case !allNames(o.Names.Atoms) || !allFuns(o.Names.Funs, 1) || !allFuns(called(o.Preds), 0):
		return api.ErrForm
	case twice(o.Names.Atoms) || twice(o.Names.Funs) || twice(called(o.Preds)):
		return api.ErrTwice
	case !allEntries(o):
		return api.ErrForm
	}
	for _, i := range o.Code {
		if e := checkInstr(o, i); e != api.OK {
			return e
		}
	}
	return api.OK
}

// called are the predicates by what they are called, without their Entries.
func called(preds []Pred) []heap.Fun {
	var l []heap.Fun
	for _, p := range preds {
		l = append(l, heap.Fun{Name: p.Name, Arity: p.Arity})
	}
	return l
}

// full tells whether one of the tables has more than there may be.
func full(atoms, funs, preds, instrs int) bool {
	return atoms > api.MaxAtoms || funs > api.MaxAtoms || preds > api.MaxPreds || instrs > api.MaxCode
}

func allNames(l []string) bool {
	for _, s := range l {
		if !term.Name(s) {
			return false
		}
	}
	return true
}

// allFuns looks at names, and whether their arities go from the least one on.
func allFuns(l []heap.Fun, least int) bool {
	for _, f := range l {
		if !term.Name(f.Name) || f.Arity < least || f.Arity > api.MaxArity {
			return false
		}
	}
	return true
}

func twice[T comparable](l []T) bool {
	seen := make(map[T]bool, len(l))
	for _, x := range l {
		if seen[x] {
			return true
		}
		seen[x] = true
	}
	return false
}

// allEntries tells whether each Entry may be, and no two are the same.
func allEntries(o Object) bool {
	var taken [api.MaxCode]bool
	for _, p := range o.Preds {
		if p.Entry == None {
			continue
		}
		if !within(p.Entry, len(o.Code)) || taken[p.Entry] {
			return false
		}
		taken[p.Entry] = true
	}
	return true
}

// within tells whether there is a place n in a row of so many.
func within(n, many int) bool { return n >= 0 && n < many }

func checkInstr(o Object, i code.Instr) api.Errno {
	if code.Name(i.Op) == "" {
		return api.ErrOp
	}
	if !code.Right(i) {
		return api.ErrOperand
	}
	for k, kind := range code.Operands(i.Op) {
		if !there(o, kind, i.A[k]) {
			return api.ErrOperand
		}
	}
	return api.OK
}

// there tells whether an operand of a right instruction names what the object has. Nowhere needs no place: Right has it in a switch alone.
func there(o Object, kind, n int) bool {
	switch kind {
	case code.Atom:
		return within(n, len(o.Names.Atoms))
	case code.Fun:
		return within(n, len(o.Names.Funs))
	case code.Pred:
		return within(n, len(o.Preds))
	case code.Label:
		return n == code.Nowhere || within(n, len(o.Code))
	}
	return true
}
