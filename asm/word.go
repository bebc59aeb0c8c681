package asm

import (
	"strconv"
	"strings"

	"resolvent/api"
	"resolvent/code"
	"resolvent/heap"
	"resolvent/term"
)

// isNamed tells whether a word names what a table has, or a label, in a way of this layer's own.
func isNamed(kind int, word string) bool {
	switch kind {
	case code.Atom, code.Fun, code.Pred:
		return true
	case code.Label:
		return word != nowhere
	}
	return false
}

// readFun reads a name, a slash, and an arity from the least one on.
func readFun(word string, least int) (heap.Fun, bool) {
	name, digits, _ := strings.Cut(word, "/")
	arity, ok := readNumber(digits, api.MaxArity)
	if !ok || arity < least || !term.Name(name) {
		return heap.Fun{}, false
	}
	return heap.Fun{Name: name, Arity: arity}, true
}

func readLabel(word string) (int, bool) {
	digits, marked := strings.CutPrefix(word, labelMark)
	if !marked {
		return 0, false
	}
	return readNumber(digits, api.MaxCode-1)
}

// readNumber reads one from 0 to the greatest. As a number has one text alone, noughts and signs ahead aren't read.
func readNumber(digits string, greatest int) (int, bool) {
	n, err := strconv.Atoi(digits)
	if err != nil || n < 0 || n > greatest || strconv.Itoa(n) != digits {
		return 0, false
	}
	return n, true
}

// funWord is what readFun reads.
func funWord(name string, arity int) string { return name + "/" + strconv.Itoa(arity) }
