package obj

import (
	"bytes"
	"encoding/binary"
	"hash/crc32"
	"math/rand"
	"regexp"
	"slices"
	"strconv"

	"resolvent/api"
	"resolvent/code"
	"resolvent/heap"
)

// The limits stand here as the document has them, so that a change of one shows.
const (
	mostAtoms  = 256
	mostFuns   = 256
	mostPreds  = 64
	mostInstrs = 1024
	mostArity  = 8
	elsewhere  = 65535
	noPlace    = 65535
	opTry      = 20
	opSwitch   = 26
)

// kinds are the operands of each Op by the document: a letter each, R a Reg, A an Atom, F a Fun, C a Count, S a Size, P a Pred, L a Label.
var kinds = [27]string{"", "RX", "RX", "AX", "FX", "X", "R", "R", "A", "C", "RX", "RX", "AX", "FX", "X", "S", "", "P", "P", "", "L", "L", "", "", "Y", "Y", "LLLL"}

// ends are from where to where operands go by the document, whatever an object has.
var ends = map[rune][2]int{'R': {0, 31}, 'X': {0, 15}, 'A': {0, 255}, 'F': {0, 255}, 'C': {1, 8}, 'S': {0, 16}, 'P': {0, 63}, 'L': {0, 1023}, 'Y': {0, 15}}

var nameText = regexp.MustCompile(`^[a-z][a-z0-9]{0,31}\z`)

// modelCheck goes by the document's words.
func modelCheck(o Object) api.Errno {
	if len(o.Names.Atoms) > mostAtoms || len(o.Names.Funs) > mostFuns || len(o.Preds) > mostPreds || len(o.Code) > mostInstrs {
		return api.ErrFull
	}
	seen := map[string]bool{}
	form, again := false, false
	see := func(what, name string, arity, least, greatest int) {
		key := what + " " + name + " " + strconv.Itoa(arity)
		form = form || !nameText.MatchString(name) || arity < least || arity > greatest
		again = again || seen[key]
		seen[key] = true
	}
	for _, s := range o.Names.Atoms {
		see("atom", s, 0, 0, 0)
	}
	for _, f := range o.Names.Funs {
		see("fun", f.Name, f.Arity, 1, mostArity)
	}
	for _, p := range o.Preds {
		see("pred", p.Name, p.Arity, 0, mostArity)
	}
	if form {
		return api.ErrForm
	}
	if again {
		return api.ErrTwice
	}
	for k, p := range o.Preds {
		if p.Entry == elsewhere {
			continue
		}
		if p.Entry < 0 || p.Entry >= len(o.Code) {
			return api.ErrForm
		}
		for _, q := range o.Preds[:k] {
			if q.Entry == p.Entry {
				return api.ErrForm
			}
		}
	}
	for _, i := range o.Code {
		if e := modelInstr(o, i); e != api.OK {
			return e
		}
	}
	return api.OK
}

func modelInstr(o Object, i code.Instr) api.Errno {
	if i.Op < 0 || i.Op > 26 {
		return api.ErrOp
	}
	tables := map[rune]int{'A': len(o.Names.Atoms), 'F': len(o.Names.Funs), 'P': len(o.Preds), 'L': len(o.Code)}
	for k, n := range i.A {
		if k >= len(kinds[i.Op]) {
			if n != 0 {
				return api.ErrOperand
			}
			continue
		}
		kind := rune(kinds[i.Op][k])
		if i.Op == opSwitch && n == noPlace {
			continue
		}
		if n < ends[kind][0] || n > ends[kind][1] {
			return api.ErrOperand
		}
		if many, has := tables[kind]; has && n >= many {
			return api.ErrOperand
		}
	}
	return api.OK
}

// modelBody is the bytes of an object without the sum, also of one that isn't right, as far as its numbers have room.
func modelBody(o Object) []byte {
	var b bytes.Buffer
	word := func(n int) { binary.Write(&b, binary.BigEndian, uint16(n)) }
	name := func(s string) {
		b.WriteByte(byte(len(s)))
		b.WriteString(s)
	}
	b.Write([]byte{0x52, 0x53, 0x4C, 0x56, 0x01})
	word(len(o.Names.Atoms))
	word(len(o.Names.Funs))
	word(len(o.Preds))
	word(len(o.Code))
	for _, s := range o.Names.Atoms {
		name(s)
	}
	for _, f := range o.Names.Funs {
		name(f.Name)
		b.WriteByte(byte(f.Arity))
	}
	for _, p := range o.Preds {
		name(p.Name)
		b.WriteByte(byte(p.Arity))
		word(p.Entry)
	}
	for _, i := range o.Code {
		b.WriteByte(byte(i.Op))
		if i.Op < 0 || i.Op > 26 {
			continue
		}
		for k, kind := range kinds[i.Op] {
			if kind == 'L' {
				word(i.A[k])
			} else {
				b.WriteByte(byte(i.A[k]))
			}
		}
	}
	return b.Bytes()
}

// summed is a body with its sum behind it.
func summed(body []byte) []byte {
	return binary.BigEndian.AppendUint32(bytes.Clone(body), crc32.ChecksumIEEE(body))
}

func modelBytes(o Object) []byte { return summed(modelBody(o)) }

// modelDecode goes by the document's words; what is wrong stops it at once.
func modelDecode(b []byte) (o Object, e api.Errno) {
	defer func() {
		if r := recover(); r != nil {
			o, e = Object{}, r.(api.Errno)
		}
	}()
	at := 0
	next := func(n int) int {
		x := 0
		for range n {
			if at >= len(b) {
				panic(api.ErrShort)
			}
			x = 256*x + int(b[at])
			at++
		}
		return x
	}
	name := func() string {
		n := next(1)
		if at+n > len(b) {
			panic(api.ErrShort)
		}
		at += n
		return string(b[at-n : at])
	}
	for _, c := range "RSLV\x01" {
		if next(1) != int(c) {
			panic(api.ErrMagic)
		}
	}
	atoms, funs, preds, instrs := next(2), next(2), next(2), next(2)
	if atoms > mostAtoms || funs > mostFuns || preds > mostPreds || instrs > mostInstrs {
		panic(api.ErrFull)
	}
	for range atoms {
		o.Names.Atoms = append(o.Names.Atoms, name())
	}
	for range funs {
		s := name()
		o.Names.Funs = append(o.Names.Funs, heap.Fun{Name: s, Arity: next(1)})
	}
	for range preds {
		s := name()
		arity := next(1)
		o.Preds = append(o.Preds, Pred{s, arity, next(2)})
	}
	for range instrs {
		i := code.Instr{Op: next(1)}
		if i.Op > 26 {
			panic(api.ErrOp)
		}
		for k, kind := range kinds[i.Op] {
			if kind == 'L' {
				i.A[k] = next(2)
			} else {
				i.A[k] = next(1)
			}
		}
		o.Code = append(o.Code, i)
	}
	if e := modelCheck(o); e != api.OK {
		panic(e)
	}
	sum := uint32(next(4))
	switch {
	case at < len(b):
		panic(api.ErrLong)
	case sum != crc32.ChecksumIEEE(b[:at-4]):
		panic(api.ErrSum)
	}
	return o, api.OK
}

// modelSame tells whether both are the same, field by field.
func modelSame(a, b Object) bool {
	return slices.Equal(a.Names.Atoms, b.Names.Atoms) && slices.Equal(a.Names.Funs, b.Names.Funs) && slices.Equal(a.Preds, b.Preds) && slices.Equal(a.Code, b.Code)
}

// copied is an object in memory of its own.
func copied(o Object) Object {
	return Object{Names: heap.Names{Atoms: slices.Clone(o.Names.Atoms), Funs: slices.Clone(o.Names.Funs)}, Preds: slices.Clone(o.Preds), Code: slices.Clone(o.Code)}
}

// nameOf is the n-th of many names.
func nameOf(n int) string { return "n" + strconv.Itoa(n) }

// sized is an object that is right, with tables of so many and instructions that name nothing.
func sized(atoms, funs, preds, instrs int) Object {
	var o Object
	for n := range atoms {
		o.Names.Atoms = append(o.Names.Atoms, nameOf(n))
	}
	for n := range funs {
		o.Names.Funs = append(o.Names.Funs, heap.Fun{Name: nameOf(n), Arity: 1 + n%8})
	}
	for n := range preds {
		p := Pred{nameOf(n), n % 9, elsewhere}
		if n < instrs {
			p.Entry = instrs - 1 - n
		}
		o.Preds = append(o.Preds, p)
	}
	for range instrs {
		o.Code = append(o.Code, code.Instr{Op: 19})
	}
	return o
}

// some is an object that is right, by chance.
func some(r *rand.Rand) Object {
	n := r.Intn(12)
	if r.Intn(40) == 0 {
		n = r.Intn(mostInstrs + 1)
	}
	o := sized(r.Intn(5), r.Intn(5), r.Intn(min(6, n+2)), n)
	for k := range o.Names.Atoms {
		if r.Intn(3) == 0 {
			o.Names.Atoms[k] = longName(r, k)
		}
	}
	for k := range o.Preds {
		if r.Intn(4) == 0 {
			o.Preds[k].Entry = elsewhere
		}
	}
	for k := range o.Code {
		o.Code[k] = someInstr(r, o)
	}
	return o
}

// longName is the k-th of names that are as long as may be, or shorter.
func longName(r *rand.Rand, k int) string {
	s := string(rune('a' + k))
	for range r.Intn(32) {
		s += string("az09m5"[r.Intn(6)])
	}
	return s
}

// someInstr is an instruction that may stand in the object, by chance.
func someInstr(r *rand.Rand, o Object) code.Instr {
	for {
		i := code.Instr{Op: r.Intn(27)}
		for k, kind := range kinds[i.Op] {
			least, greatest := ends[kind][0], ends[kind][1]
			switch kind {
			case 'A':
				greatest = len(o.Names.Atoms) - 1
			case 'F':
				greatest = len(o.Names.Funs) - 1
			case 'P':
				greatest = len(o.Preds) - 1
			case 'L':
				greatest = len(o.Code) - 1
			}
			i.A[k] = least + r.Intn(max(1, greatest-least+1))
			if i.Op == opSwitch && r.Intn(3) == 0 {
				i.A[k] = noPlace
			}
		}
		if modelInstr(o, i) == api.OK {
			return i
		}
	}
}
