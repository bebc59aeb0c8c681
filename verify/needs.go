package verify

import (
	"resolvent/code"
	"resolvent/obj"
)

// needs answers the Need of each place of code that can be trusted. It goes from the last one to the first one, as all ways go the other way.
func needs(o obj.Object) []Need {
	l := make([]Need, len(o.Code))
	for n := len(l) - 1; n >= 0; n-- {
		i := o.Code[n]
		l[n] = own(o, i).and(greatest(l, follow(n, i)))
	}
	return l
}

// follow are the places to which the instruction in place n goes up to the next boundary.
func follow(n int, i code.Instr) []int {
	switch {
	case i.Op == code.Switch:
		return labels(i)
	case i.Op == code.Call || !goesOn(i.Op):
		return nil
	}
	return []int{n + 1}
}

// own is what comes by an instruction itself.
func own(o obj.Object, i code.Instr) Need {
	switch i.Op {
	case code.GetStr, code.PutStr:
		return Need{Cells: 1 + o.Names.Funs[i.A[0]].Arity}
	case code.GetLis, code.PutLis:
		return Need{Cells: 2}
	case code.PutVar:
		return Need{Cells: 1}
	case code.Allocate:
		return Need{Words: 3 + i.A[0]}
	case code.Try:
		return Need{Choices: 1}
	}
	return Need{}
}

// and answers what comes by both, one behind the other.
func (a Need) and(b Need) Need {
	return Need{Cells: a.Cells + b.Cells, Words: a.Words + b.Words, Choices: a.Choices + b.Choices}
}

// greatest answers the most of each that comes from one of some places.
func greatest(l []Need, places []int) Need {
	var most Need
	for _, n := range places {
		most = Need{Cells: max(most.Cells, l[n].Cells), Words: max(most.Words, l[n].Words), Choices: max(most.Choices, l[n].Choices)}
	}
	return most
}
