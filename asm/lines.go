package asm

import (
	"strconv"
	"strings"

	"resolvent/api"
	"resolvent/code"
	"resolvent/obj"
)

// Lines answers lines of which Program makes the object's code.
func Lines(o obj.Object) []string {
	if obj.Check(o) != api.OK {
		return nil
	}
	labelled := labels(o.Code)
	var l []string
	for at, i := range o.Code {
		for _, p := range o.Preds {
			if p.Entry == at {
				l = append(l, predWord+funWord(p.Name, p.Arity))
			}
		}
		if labelled[at] {
			l = append(l, labelMark+strconv.Itoa(at))
		}
		l = append(l, instrLine(o, i))
	}
	return l
}

// labels tells of each place whether an instruction has it as a Label.
func labels(instrs []code.Instr) []bool {
	l := make([]bool, len(instrs))
	for _, i := range instrs {
		for k, kind := range code.Operands(i.Op) {
			if kind == code.Label && i.A[k] != code.Nowhere {
				l[i.A[k]] = true
			}
		}
	}
	return l
}

// instrLine is layer 6's text, but for the words that this layer has of its own.
func instrLine(o obj.Object, i code.Instr) string {
	words := strings.Split(code.Text(i), " ")
	for k, kind := range code.Operands(i.Op) {
		if isNamed(kind, words[k+1]) {
			words[k+1] = named(o, kind, i.A[k])
		}
	}
	return strings.Join(words, " ")
}

// named is the word of what an operand names.
func named(o obj.Object, kind, n int) string {
	switch kind {
	case code.Atom:
		return o.Names.Atoms[n]
	case code.Fun:
		f := o.Names.Funs[n]
		return funWord(f.Name, f.Arity)
	case code.Pred:
		p := o.Preds[n]
		return funWord(p.Name, p.Arity)
	}
	return labelMark + strconv.Itoa(n)
}
