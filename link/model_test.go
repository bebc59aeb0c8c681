package link

import (
	"math/rand"
	"slices"
	"strconv"

	"resolvent/api"
	"resolvent/code"
	"resolvent/heap"
	"resolvent/obj"
)

// The limits stand here as the document has them, so that a change of one shows.
const (
	mostAtoms  = 256
	mostFuns   = 256
	mostPreds  = 64
	mostInstrs = 1024
	elsewhere  = 65535
	noPlace    = 65535
	opExecute  = 18
	opProceed  = 19
	opSwitch   = 26
)

// kinds are the operands of each Op by the document: a letter each, R a Reg, A an Atom, F a Fun, C a Count, S a Size, P a Pred, L a Label.
var kinds = [27]string{"", "RX", "RX", "AX", "FX", "X", "R", "R", "A", "C", "RX", "RX", "AX", "FX", "X", "S", "", "P", "P", "", "L", "L", "", "", "Y", "Y", "LLLL"}

// ends are from where to where the other operands go by the document.
var ends = map[rune][2]int{'R': {0, 31}, 'X': {0, 15}, 'C': {1, 8}, 'S': {0, 16}, 'Y': {0, 15}}

func samePred(p, q obj.Pred) bool { return p.Name == q.Name && p.Arity == q.Arity }

// modelFault goes by the document's words, but for a whole that is full.
func modelFault(l []obj.Object) (api.Errno, int) {
	for n, o := range l {
		if e := obj.Check(o); e != api.OK {
			return e, n
		}
	}
	for n, o := range l {
		for _, p := range o.Preds {
			for _, ahead := range l[:n] {
				for _, q := range ahead.Preds {
					if samePred(p, q) && p.Entry != elsewhere && q.Entry != elsewhere {
						return api.ErrTwice, n
					}
				}
			}
		}
	}
	// The first Pred of the whole is the first one that is met, so the objects in their order have them in theirs.
	for n, o := range l {
		for _, p := range o.Preds {
			found := false
			for _, x := range l {
				for _, q := range x.Preds {
					found = found || samePred(p, q) && q.Entry != elsewhere
				}
			}
			if !found {
				return api.ErrUnknown, n
			}
		}
	}
	return api.OK, -1
}

// modelObjects goes by the document's words.
func modelObjects(l []obj.Object) (obj.Object, api.Errno, int) {
	if e, at := modelFault(l); e != api.OK {
		return obj.Object{}, e, at
	}
	var whole obj.Object
	instrs := 0
	for _, o := range l {
		for _, s := range o.Names.Atoms {
			if !slices.Contains(whole.Names.Atoms, s) {
				whole.Names.Atoms = append(whole.Names.Atoms, s)
			}
		}
		for _, f := range o.Names.Funs {
			if !slices.Contains(whole.Names.Funs, f) {
				whole.Names.Funs = append(whole.Names.Funs, f)
			}
		}
		for _, p := range o.Preds {
			if p.Entry != elsewhere {
				p.Entry += instrs
			}
			at := slices.IndexFunc(whole.Preds, func(q obj.Pred) bool { return samePred(p, q) })
			if at < 0 {
				whole.Preds = append(whole.Preds, p)
			} else if p.Entry != elsewhere {
				whole.Preds[at].Entry = p.Entry
			}
		}
		instrs += len(o.Code)
	}
	if len(whole.Names.Atoms) > mostAtoms || len(whole.Names.Funs) > mostFuns || len(whole.Preds) > mostPreds || instrs > mostInstrs {
		return obj.Object{}, api.ErrFull, -1
	}
	for _, o := range l {
		base := len(whole.Code)
		for _, i := range o.Code {
			whole.Code = append(whole.Code, modelInstr(o, whole, base, i))
		}
	}
	return whole, api.OK, -1
}

func modelInstr(o, whole obj.Object, base int, i code.Instr) code.Instr {
	for k, kind := range kinds[i.Op] {
		n := i.A[k]
		switch {
		case kind == 'A':
			i.A[k] = slices.Index(whole.Names.Atoms, o.Names.Atoms[n])
		case kind == 'F':
			i.A[k] = slices.Index(whole.Names.Funs, o.Names.Funs[n])
		case kind == 'P':
			i.A[k] = slices.IndexFunc(whole.Preds, func(p obj.Pred) bool { return samePred(p, o.Preds[n]) })
		case kind == 'L' && n != noPlace:
			i.A[k] = base + n
		}
	}
	return i
}

// told tells an instruction of an object that begins in place base: what its operands name, and Labels as places from the object's beginning on.
func told(o obj.Object, base int, i code.Instr) string {
	s := code.Name(i.Op)
	for k, kind := range kinds[i.Op] {
		n := i.A[k]
		switch {
		case kind == 'A':
			s += " " + o.Names.Atoms[n]
		case kind == 'F':
			s += " " + o.Names.Funs[n].Name + "/" + strconv.Itoa(o.Names.Funs[n].Arity)
		case kind == 'P':
			s += " " + o.Preds[n].Name + "/" + strconv.Itoa(o.Preds[n].Arity)
		case kind == 'L' && n != noPlace:
			s += " +" + strconv.Itoa(n-base)
		default:
			s += " " + strconv.Itoa(n)
		}
	}
	return s
}

// modelSame tells whether both are the same, field by field.
func modelSame(a, b obj.Object) bool {
	return slices.Equal(a.Names.Atoms, b.Names.Atoms) && slices.Equal(a.Names.Funs, b.Names.Funs) && slices.Equal(a.Preds, b.Preds) && slices.Equal(a.Code, b.Code)
}

// copied is an object in memory of its own.
func copied(o obj.Object) obj.Object {
	return obj.Object{Names: heap.Names{Atoms: slices.Clone(o.Names.Atoms), Funs: slices.Clone(o.Names.Funs)}, Preds: slices.Clone(o.Preds), Code: slices.Clone(o.Code)}
}

func allCopied(l []obj.Object) []obj.Object {
	var c []obj.Object
	for _, o := range l {
		c = append(c, copied(o))
	}
	return c
}

// nameOf is the n-th of many names.
func nameOf(n int) string { return "n" + strconv.Itoa(n) }

// predOf is the n-th of many predicates, some of which differ by Arity alone.
func predOf(n int) obj.Pred { return obj.Pred{Name: nameOf(n / 2), Arity: n % 2, Entry: elsewhere} }

// plain is so many instructions that name nothing.
func plain(n int) []code.Instr {
	var l []code.Instr
	for range n {
		l = append(l, code.Instr{Op: opProceed})
	}
	return l
}

// atomsFrom is an object that has so many names from the n-th one on, and likewise the next two.
func atomsFrom(n, many int) obj.Object {
	var o obj.Object
	for k := range many {
		o.Names.Atoms = append(o.Names.Atoms, nameOf(n+k))
	}
	return o
}

func funsFrom(n, many int) obj.Object {
	var o obj.Object
	for k := range many {
		o.Names.Funs = append(o.Names.Funs, heap.Fun{Name: nameOf((n + k) / 8), Arity: 1 + (n+k)%8})
	}
	return o
}

// predsFrom has an instruction for each Entry.
func predsFrom(n, many int) obj.Object {
	o := obj.Object{Code: plain(many)}
	for k := range many {
		p := predOf(n + k)
		p.Entry = many - 1 - k
		o.Preds = append(o.Preds, p)
	}
	return o
}

// calls is an object that has one Pred in its table, and code that goes to it, but not its code.
func calls(p obj.Pred) obj.Object {
	p.Entry = elsewhere
	return obj.Object{Preds: []obj.Pred{p}, Code: []code.Instr{{Op: opExecute}}}
}

// has is an object that has the code of one Pred, as its second instruction.
func has(p obj.Pred) obj.Object {
	p.Entry = 1
	return obj.Object{Preds: []obj.Pred{p}, Code: plain(2)}
}

// several are objects by chance that can mostly be made one: each predicate that one of them has in its table is begun in one of them.
func several(r *rand.Rand) []obj.Object {
	l := make([]obj.Object, r.Intn(6))
	for n := range l {
		for _, k := range r.Perm(6)[:r.Intn(6)] {
			l[n].Names.Atoms = append(l[n].Names.Atoms, nameOf(k))
		}
		for _, k := range r.Perm(6)[:r.Intn(6)] {
			l[n].Names.Funs = append(l[n].Names.Funs, heap.Fun{Name: nameOf(k / 2), Arity: 1 + k%2})
		}
		l[n].Code = plain(r.Intn(8))
	}
	if len(l) == 0 {
		return l
	}
	for _, k := range r.Perm(8)[:r.Intn(8)] {
		p := predOf(k)
		for n := range l {
			if r.Intn(3) == 0 {
				l[n].Preds = append(l[n].Preds, p)
			}
		}
		begin(&l[r.Intn(len(l))], p)
	}
	for n := range l {
		r.Shuffle(len(l[n].Preds), func(a, b int) { l[n].Preds[a], l[n].Preds[b] = l[n].Preds[b], l[n].Preds[a] })
		for k := range l[n].Code {
			l[n].Code[k] = someInstr(r, l[n])
		}
	}
	return l
}

// begin has a predicate begin in an object: with its last instruction, which is a new one.
func begin(o *obj.Object, p obj.Pred) {
	p.Entry = len(o.Code)
	o.Code = append(o.Code, plain(1)...)
	at := slices.IndexFunc(o.Preds, func(q obj.Pred) bool { return samePred(p, q) })
	if at < 0 {
		o.Preds = append(o.Preds, p)
	} else {
		o.Preds[at] = p
	}
}

// someInstr is an instruction that may stand in the object, by chance.
func someInstr(r *rand.Rand, o obj.Object) code.Instr {
	for {
		i := code.Instr{Op: r.Intn(27)}
		right := true
		for k, kind := range kinds[i.Op] {
			least, greatest := ends[kind][0], ends[kind][1]
			switch kind {
			case 'A':
				greatest = len(o.Names.Atoms) - 1
			case 'F':
				greatest = len(o.Names.Funs) - 1
			case 'P':
				greatest = len(o.Preds) - 1
			case 'L':
				greatest = len(o.Code) - 1
			}
			right = right && greatest >= least
			i.A[k] = least + r.Intn(max(1, greatest-least+1))
			if i.Op == opSwitch && r.Intn(3) == 0 {
				i.A[k] = noPlace
			}
		}
		if right {
			return i
		}
	}
}
