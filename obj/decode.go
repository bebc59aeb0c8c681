package obj

import (
	"resolvent/api"
	"resolvent/code"
	"resolvent/crc"
	"resolvent/heap"
)

// Decode answers the object whose bytes they are.
func Decode(b []byte) (Object, api.Errno) {
	r := reader{rest: b}
	o, e := r.object()
	if e == api.OK {
		e = Check(o)
	}
	if e == api.OK {
		e = checkEnd(b, len(r.rest))
	}
	if e != api.OK {
		return Object{}, e
	}
	return o, api.OK
}

// checkEnd looks at what is left behind the last instruction: just the sum of all ahead of it.
func checkEnd(b []byte, left int) api.Errno {
	if left < sumSize {
		return api.ErrShort
	}
	if left > sumSize {
		return api.ErrLong
	}
	end := len(b) - sumSize
	sum := reader{rest: b[end:]}
	if sum.number(sumSize) != int(crc.Sum(b[:end])) {
		return api.ErrSum
	}
	return api.OK
}

// reader takes bytes from left to right. Once bytes lack it takes no more: all behind is noughts, and those are no fault of their own that would be told ahead of the lack.
type reader struct {
	rest  []byte
	short bool
}

// take answers the next n bytes, or none of them, if they aren't all there.
func (r *reader) take(n int) []byte {
	if r.short || n > len(r.rest) {
		r.short = true
		return nil
	}
	b := r.rest[:n]
	r.rest = r.rest[n:]
	return b
}

// number takes a number of so many bytes, the highest one first.
func (r *reader) number(size int) int {
	n := 0
	for _, c := range r.take(size) {
		n = n<<8 | int(c)
	}
	return n
}

func (r *reader) name() string { return string(r.take(r.number(1))) }

// object takes all but the sum.
func (r *reader) object() (Object, api.Errno) {
	if !r.magic() {
		return Object{}, api.ErrMagic
	}
	var counts [4]int
	for k := range counts {
		counts[k] = r.number(countSize)
	}
	if r.short {
		return Object{}, api.ErrShort
	}
	if full(counts[0], counts[1], counts[2], counts[3]) {
		return Object{}, api.ErrFull
	}
	o := r.tables(counts[0], counts[1], counts[2])
	for range counts[3] {
		i, known := r.instr()
		if !known {
			return Object{}, api.ErrOp
		}
		o.Code = append(o.Code, i)
	}
	if r.short {
		return Object{}, api.ErrShort
	}
	return o, api.OK
}

// magic takes the first bytes; false: one that is there is another one. It takes them one by one, as another one counts also where those behind it lack.
func (r *reader) magic() bool {
	for k := range len(magic) {
		c := r.take(1)
		if len(c) == 1 && c[0] != magic[k] {
			return false
		}
	}
	return true
}

// tables takes names and predicates.
func (r *reader) tables(atoms, funs, preds int) Object {
	var o Object
	for range atoms {
		o.Names.Atoms = append(o.Names.Atoms, r.name())
	}
	for range funs {
		o.Names.Funs = append(o.Names.Funs, heap.Fun{Name: r.name(), Arity: r.number(1)})
	}
	for range preds {
		o.Preds = append(o.Preds, Pred{Name: r.name(), Arity: r.number(1), Entry: r.number(countSize)})
	}
	return o
}

// instr takes an instruction; false: there is no such Op.
func (r *reader) instr() (i code.Instr, known bool) {
	i.Op = r.number(1)
	if code.Name(i.Op) == "" {
		return code.Instr{}, false
	}
	for k, kind := range code.Operands(i.Op) {
		i.A[k] = r.number(operandSize(kind))
	}
	return i, true
}
