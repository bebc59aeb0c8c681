package code

import (
	"strconv"
	"strings"

	"resolvent/api"
)

const (
	// nowhere is the text of Nowhere.
	nowhere = "-"
	// mostWords is how many words an instruction has at most: its name and four operands.
	mostWords = 5
)

// Text is the instruction in words.
func Text(i Instr) string {
	if !Right(i) {
		return ""
	}
	text := Name(i.Op)
	for k, kind := range Operands(i.Op) {
		text += " " + word(kind, i.A[k])
	}
	return text
}

// word is the text of an operand that may be.
func word(kind, n int) string {
	switch {
	case kind == Label && n == Nowhere:
		return nowhere
	case kind == Reg && n >= api.MaxX:
		return "Y" + strconv.Itoa(n-api.MaxX)
	case kind == Reg, kind == X:
		return "X" + strconv.Itoa(n)
	case kind == Y:
		return "Y" + strconv.Itoa(n)
	}
	return strconv.Itoa(n)
}

// Parse answers the instruction of which s is the Text.
func Parse(s string) (Instr, api.Errno) {
	// One word more than there may be is enough to tell that there are too many.
	words := strings.SplitN(s, " ", mostWords+1)
	op := Named(words[0])
	kinds := Operands(op)
	if op < 0 || len(words)-1 != len(kinds) {
		return Instr{}, api.ErrWord
	}
	var operands []int
	for k, kind := range kinds {
		n, ok := number(kind, words[k+1])
		if !ok {
			return Instr{}, api.ErrWord
		}
		operands = append(operands, n)
	}
	i := Make(op, operands...)
	// number reads more words than there are; those that are an operand's are the ones that come back.
	if Text(i) != s {
		return Instr{}, api.ErrWord
	}
	return i, api.OK
}

// number is the operand whose text a word is; of other words it may answer anything.
func number(kind int, word string) (int, bool) {
	if word == nowhere {
		return Nowhere, true
	}
	n, err := strconv.Atoi(strings.TrimLeft(word, "XY"))
	if kind == Reg && strings.HasPrefix(word, "Y") {
		n += api.MaxX
	}
	return n, err == nil
}
