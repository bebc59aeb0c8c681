package verify

import (
	"resolvent/api"
	"resolvent/code"
)

// asks tells whether all that an instruction of a predicate's code asks of the State is so.
func (w *walk) asks(s span, i code.Instr, t State) bool {
	if t.Alt != takesOtherWay(i.Op) {
		return false
	}
	if isPart(i.Op) {
		return asksPart(i, t)
	}
	if t.Left != 0 {
		return false
	}
	a := i.A
	switch i.Op {
	case code.GetVar:
		return t.isSet(a[1]) && t.mayBe(a[0])
	case code.GetVal:
		return t.isSet(a[1]) && t.isTerm(a[0])
	case code.GetCon, code.GetStr:
		return t.isSet(a[1])
	case code.GetLis:
		return t.isSet(a[0])
	case code.PutVar:
		return t.mayBe(a[0])
	case code.PutVal:
		return t.isTerm(a[0])
	case code.Allocate, code.Proceed:
		return t.Env < 0
	case code.Deallocate:
		return t.Env >= 0
	case code.Call:
		return t.Env >= 0 && t.hasFirst(w.object.Preds[a[0]].Arity)
	case code.Execute:
		return t.Env < 0 && t.hasFirst(w.object.Preds[a[0]].Arity)
	case code.Try:
		return t.Env < 0 && t.Neck && t.hasFirst(s.arity)
	case code.NeckCut:
		return t.Neck
	case code.GetLevel:
		return t.Neck && t.has(a[0]) == Unset
	case code.Cut:
		return t.has(a[0]) == Level
	case code.Switch:
		return t.isSet(0)
	}
	return true // the others ask no more
}

// takesOtherWay tells whether what has an Op is to be come to as another way; all else is not to be.
func takesOtherWay(op int) bool { return op == code.Retry || op == code.Trust }

// isPart tells whether what has an Op is for parts that are to come.
func isPart(op int) bool {
	return op == code.UniVar || op == code.UniVal || op == code.UniCon || op == code.UniVoid
}

// asksPart is asks of an instruction that is for parts.
func asksPart(i code.Instr, t State) bool {
	if i.Op == code.UniVoid {
		return t.Left >= i.A[0]
	}
	if t.Left == 0 {
		return false
	}
	switch i.Op {
	case code.UniVar:
		return t.mayBe(i.A[0])
	case code.UniVal:
		return t.isTerm(i.A[0])
	}
	return true
}

// makes answers what is known behind an instruction, of which all that it asks is so.
func (w *walk) makes(i code.Instr, t State) State {
	a := i.A
	switch i.Op {
	case code.GetVar:
		t.become(a[0])
	case code.GetStr:
		t.Left = w.object.Names.Funs[a[0]].Arity
	case code.GetLis:
		t.Left = 2
	case code.UniVar:
		t.become(a[0])
		t.Left--
	case code.UniVal, code.UniCon:
		t.Left--
	case code.UniVoid:
		t.Left -= a[0]
	case code.PutVar:
		t.become(a[0])
		t.become(a[1])
	case code.PutVal, code.PutCon:
		t.become(a[1])
	case code.PutStr:
		t.become(a[1])
		t.Left = w.object.Names.Funs[a[0]].Arity
	case code.PutLis:
		t.become(a[0])
		t.Left = 2
	case code.Allocate:
		t.Env = a[0]
	case code.Deallocate:
		t.Env, t.Y = -1, [api.MaxY]int{}
	case code.Call:
		t.X, t.Neck = 0, false
	case code.Retry, code.Trust:
		t.Alt = false
	case code.GetLevel:
		t.Y[a[0]] = Level
	}
	return t
}
