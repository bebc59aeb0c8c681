package obj

import (
	"resolvent/api"
	"resolvent/code"
	"resolvent/crc"
)

const (
	// magic is what the bytes of each object begin with.
	magic = "RSLV\x01"
	// countSize is how many bytes a count has, an Entry, and a Label.
	countSize = 2
	// sumSize is how many bytes the sum at the end has.
	sumSize = 4
)

// Encode answers the object's bytes.
func Encode(o Object) ([]byte, api.Errno) {
	if e := Check(o); e != api.OK {
		return nil, e
	}
	b := []byte(magic)
	for _, n := range [4]int{len(o.Names.Atoms), len(o.Names.Funs), len(o.Preds), len(o.Code)} {
		b = appendNumber(b, countSize, n)
	}
	for _, s := range o.Names.Atoms {
		b = appendName(b, s)
	}
	for _, f := range o.Names.Funs {
		b = appendNumber(appendName(b, f.Name), 1, f.Arity)
	}
	for _, p := range o.Preds {
		b = appendNumber(appendName(b, p.Name), 1, p.Arity)
		b = appendNumber(b, countSize, p.Entry)
	}
	for _, i := range o.Code {
		b = appendInstr(b, i)
	}
	return appendNumber(b, sumSize, int(crc.Sum(b))), api.OK
}

// appendNumber lays a number of so many bytes behind b, its highest byte first.
func appendNumber(b []byte, size, n int) []byte {
	for k := size - 1; k >= 0; k-- {
		b = append(b, byte(n>>(8*k)))
	}
	return b
}

func appendName(b []byte, s string) []byte {
	return append(appendNumber(b, 1, len(s)), s...)
}

func appendInstr(b []byte, i code.Instr) []byte {
	b = appendNumber(b, 1, i.Op)
	for k, kind := range code.Operands(i.Op) {
		b = appendNumber(b, operandSize(kind), i.A[k])
	}
	return b
}

// operandSize is how many bytes an operand of a kind has.
func operandSize(kind int) int {
	if kind == code.Label {
		return countSize
	}
	return 1
}
