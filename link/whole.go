package link

import (
	"slices"

	"resolvent/api"
	"resolvent/code"
	"resolvent/obj"
)

// called is what a Fun or a predicate is called.
type called struct {
	name  string
	arity int
}

// whole is what comes of several objects. They are entered first, all of them, and laid then: so what is wrong is known before there is any code, and there is never more of it than an object may have.
type whole struct {
	object      obj.Object
	atoms       map[string]int // places in the object's tables
	funs, preds map[called]int
	homes       []int  // of each predicate the first object that has it in its table
	begun       []bool // of each predicate whether an object entered has an Entry of it
	instrs      int    // of all objects entered
}

func newWhole() *whole {
	return &whole{atoms: map[string]int{}, funs: map[called]int{}, preds: map[called]int{}}
}

// enter takes the n-th object's names into the tables; false: a predicate of it has an Entry, and had one ahead.
func (w *whole) enter(n int, o obj.Object) bool {
	names := &w.object.Names
	for _, s := range o.Names.Atoms {
		names.Atoms = met(w.atoms, s, names.Atoms, s)
	}
	for _, f := range o.Names.Funs {
		names.Funs = met(w.funs, called{f.Name, f.Arity}, names.Funs, f)
	}
	w.instrs += len(o.Code)
	for _, p := range o.Preds {
		if !w.enterPred(n, p) {
			return false
		}
	}
	return true
}

func (w *whole) enterPred(n int, p obj.Pred) bool {
	key := called{p.Name, p.Arity}
	w.object.Preds = met(w.preds, key, w.object.Preds, obj.Pred{Name: p.Name, Arity: p.Arity, Entry: obj.None})
	if len(w.homes) < len(w.object.Preds) {
		w.homes, w.begun = append(w.homes, n), append(w.begun, false)
	}
	if p.Entry == obj.None {
		return true
	}
	at := w.preds[key]
	first := !w.begun[at]
	w.begun[at] = true
	return first
}

// met answers the table with the row behind it, if that is met for the first time.
func met[K comparable, T any](places map[K]int, key K, table []T, row T) []T {
	if _, had := places[key]; had {
		return table
	}
	places[key] = len(table)
	return append(table, row)
}

// unknown answers the first object that has the first predicate without an Entry (-1: each has one).
func (w *whole) unknown() int {
	at := slices.Index(w.begun, false)
	if at < 0 {
		return -1
	}
	return w.homes[at]
}

// full tells whether one of the tables, or the code, will have more than there may be.
func (w *whole) full() bool {
	o := w.object
	return len(o.Names.Atoms) > api.MaxAtoms || len(o.Names.Funs) > api.MaxAtoms || len(o.Preds) > api.MaxPreds || w.instrs > api.MaxCode
}

// lay lays an object's code behind what is there, where its predicates begin then.
func (w *whole) lay(o obj.Object) {
	base := len(w.object.Code)
	for _, p := range o.Preds {
		if p.Entry != obj.None {
			w.object.Preds[w.preds[called{p.Name, p.Arity}]].Entry = base + p.Entry
		}
	}
	for _, i := range o.Code {
		for k, kind := range code.Operands(i.Op) {
			i.A[k] = w.operand(o, base, kind, i.A[k])
		}
		w.object.Code = append(w.object.Code, i)
	}
}

// operand answers what an operand of an object's instruction is in the whole, where base instructions stand ahead of the object.
func (w *whole) operand(o obj.Object, base, kind, n int) int {
	switch kind {
	case code.Atom:
		return w.atoms[o.Names.Atoms[n]]
	case code.Fun:
		f := o.Names.Funs[n]
		return w.funs[called{f.Name, f.Arity}]
	case code.Pred:
		p := o.Preds[n]
		return w.preds[called{p.Name, p.Arity}]
	case code.Label:
		if n != code.Nowhere {
			return base + n
		}
	}
	return n
}
