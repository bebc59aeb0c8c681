// Package sidebyside holds both machines, step by step, against each other and against a model by the words of chapters 12 and 13. It has tests alone.
package sidebyside

import (
	"slices"

	"resolvent/cell"
	"resolvent/code"
	"resolvent/machine"
	"resolvent/obj"
	"resolvent/verify"
)

// place is one of an environment: what it has, as verify says it, and its bits.
type place struct {
	has  int
	bits uint64
}

// env is an environment. Each choice keeps one, and all that it is on top of, in memory of its own: so the model has no row in which one could come over another.
type env struct {
	at     int
	on     *env
	cp     int
	places []place
}

func (e *env) copied() *env {
	if e == nil {
		return nil
	}
	return &env{at: e.at, on: e.on.copied(), cp: e.cp, places: slices.Clone(e.places)}
}

// way is a choice, which keeps all cells as they were: so the model undoes nothing (P7).
type way struct {
	x           []cell.Cell
	e           *env
	cp, b0      int
	next, other int
	cells       []cell.Cell
	trail       []int
}

// model is a machine that goes by the words of the document, one after the other. Where an instruction looks at what isn't there, or isn't set on the way that it came, it panics.
type model struct {
	o      obj.Object
	report verify.Report
	room   machine.Room
	cells  []cell.Cell
	trail  []int
	x      [16]cell.Cell
	set    [16]bool
	e      *env
	ways   []way
	pc, cp int
	b0, s  int
	write  bool
	lack   bool // of room for the arguments' cells
	out    int
	seen   map[string]int // how often each instruction went which way
}

func newModel(o obj.Object, pred int, room machine.Room, seen map[string]int) *model {
	report, _, _ := verify.Check(o)
	w := &model{o: o, report: report, room: room, cp: -1, seen: seen}
	p := o.Preds[pred]
	if p.Arity > room.Cells {
		w.pc, w.lack, w.out = p.Entry, true, machine.Full
		seen["full arguments"]++
		return w
	}
	for k := range p.Arity {
		w.x[k], w.set[k] = w.newVar(), true
	}
	w.enter(p.Entry, "beginning")
	return w
}

func ref(n int) cell.Cell { return cell.Make(cell.Ref, n) }

func must(ok bool, what string) {
	if !ok {
		panic("the model is stuck: " + what)
	}
}

func (w *model) push(c cell.Cell) int {
	must(len(w.cells) < w.room.Cells, "cells")
	w.cells = append(w.cells, c)
	return len(w.cells) - 1
}

func (w *model) newVar() cell.Cell { return ref(w.push(ref(len(w.cells)))) }

func (w *model) deref(c cell.Cell) cell.Cell {
	for c.Kind() == cell.Ref && w.cells[c.Number()] != c {
		c = w.cells[c.Number()]
	}
	must(c.Kind() != cell.Fun, "a Fun")
	return c
}

func (w *model) bind(v, c cell.Cell) {
	at := v.Number()
	must(w.cells[at] == v, "no variable")
	w.cells[at] = c
	if n := len(w.ways); n > 0 && at < len(w.ways[n-1].cells) {
		w.trail = append(w.trail, at)
	}
}

// unify answers how it came out: one, other, or full.
func (w *model) unify(a, b cell.Cell) string {
	pairs := [][2]cell.Cell{{a, b}}
	for gone := 0; len(pairs) > 0; gone++ {
		if gone == 4096 {
			return "full"
		}
		l, r := w.deref(pairs[0][0]), w.deref(pairs[0][1])
		pairs = pairs[1:]
		from, n := 0, 0
		switch {
		case l == r:
		case l.Kind() == cell.Ref && r.Kind() == cell.Ref:
			w.bind(ref(max(l.Number(), r.Number())), ref(min(l.Number(), r.Number())))
		case l.Kind() == cell.Ref:
			w.bind(l, r)
		case r.Kind() == cell.Ref:
			w.bind(r, l)
		case l.Kind() != r.Kind() || l.Kind() == cell.Con:
			return "other"
		case l.Kind() == cell.Lis:
			n = 2
		case w.cells[l.Number()] != w.cells[r.Number()]:
			return "other"
		default:
			from, n = 1, w.o.Names.Funs[w.cells[l.Number()].Number()].Arity
		}
		var parts [][2]cell.Cell
		for k := from; k < from+n; k++ {
			parts = append(parts, [2]cell.Cell{w.cells[l.Number()+k], w.cells[r.Number()+k]})
		}
		pairs = append(parts, pairs...)
	}
	return "one"
}

// get answers what a Reg has, which is a Term.
func (w *model) get(r int) cell.Cell {
	if r < 16 {
		must(w.set[r], "a register that isn't set")
		return w.x[r]
	}
	p := w.e.places[r-16]
	must(p.has == verify.Term, "a place that is no Term")
	return cell.Cell(p.bits)
}

func (w *model) put(r int, c cell.Cell) {
	if r < 16 {
		w.x[r], w.set[r] = c, true
		return
	}
	must(w.e.places[r-16].has == verify.Unset, "a place that is set")
	w.e.places[r-16] = place{verify.Term, uint64(c)}
}

// behind answers where the next environment stands, if there is no choice.
func (w *model) behind() int {
	if w.e == nil {
		return 0
	}
	return w.e.at + 3 + len(w.e.places)
}

func (w *model) next() int {
	if n := len(w.ways); n > 0 {
		return max(w.behind(), w.ways[n-1].next)
	}
	return w.behind()
}

// enter goes to a place; from says whence.
func (w *model) enter(pc int, from string) {
	w.pc, w.out = pc, machine.Running
	need := w.report.Needs[pc]
	if w.room.Cells-len(w.cells) < need.Cells {
		w.out = machine.Full
		w.seen["full cells "+from]++
	}
	if w.next()+need.Words > w.room.Words {
		w.out = machine.Full
		w.seen["full words "+from]++
	}
	if len(w.ways)+need.Choices > w.room.Choices {
		w.out = machine.Full
		w.seen["full choices "+from]++
	}
}

func (w *model) fail() {
	n := len(w.ways)
	if n == 0 {
		w.out = machine.Failure
		w.seen["fails at last"]++
		return
	}
	c := w.ways[n-1]
	w.cells, w.trail = slices.Clone(c.cells), slices.Clone(c.trail)
	w.set = [16]bool{}
	for k, x := range c.x {
		w.x[k], w.set[k] = x, true
	}
	w.e, w.cp, w.b0 = c.e.copied(), c.cp, c.b0
	w.seen["fails to a choice"]++
	w.enter(c.other, "other way")
}

// own is the arity of the predicate of whose code a place is.
func (w *model) own(at int) int {
	best := obj.Pred{Entry: -1}
	for _, p := range w.o.Preds {
		if p.Entry <= at && p.Entry > best.Entry {
			best = p
		}
	}
	return best.Arity
}

// setFirst leaves only the first registers set.
func (w *model) setFirst(n int) {
	for k := range w.set {
		must(k >= n || w.set[k], "an argument that isn't set")
		w.set[k] = k < n
	}
}

func (w *model) step() int {
	if w.out != machine.Running {
		return w.out
	}
	at := w.pc
	i := w.o.Code[at]
	w.pc = at + 1
	how, fails := w.do(at, i)
	w.seen[code.Name(i.Op)+how]++
	switch {
	case fails:
		w.pc = at
		w.fail()
	case how == " full":
		w.pc, w.out = at, machine.Full
	case w.out == machine.Success:
		w.pc = at
	}
	return w.out
}

func (w *model) again() bool {
	if w.out != machine.Success {
		return false
	}
	w.fail()
	return w.out == machine.Running
}

// do does an instruction; how says which way it went.
func (w *model) do(at int, i code.Instr) (how string, fails bool) {
	switch i.Op {
	case code.Fail:
		return "", true
	case code.GetVar:
		w.put(i.A[0], w.get(i.A[1]))
	case code.PutVal:
		w.put(i.A[1], w.get(i.A[0]))
	case code.PutVar:
		v := w.newVar()
		w.put(i.A[0], v)
		w.put(i.A[1], v)
	case code.PutCon:
		w.put(i.A[1], cell.Make(cell.Con, i.A[0]))
	case code.GetVal:
		how = w.unify(w.get(i.A[0]), w.get(i.A[1]))
		return " " + how, how == "other"
	case code.GetCon:
		return w.con(cell.Make(cell.Con, i.A[0]), w.get(i.A[1]))
	case code.GetStr, code.PutStr, code.GetLis, code.PutLis:
		return w.begin(i)
	case code.UniVar, code.UniVal, code.UniCon, code.UniVoid:
		return w.part(i)
	case code.Call:
		w.cp = at + 1
		must(w.e != nil, "a call without an environment")
		w.run(i.A[0])
	case code.Execute:
		w.run(i.A[0])
	case code.Proceed:
		if w.cp < 0 {
			must(w.e == nil, "an environment at the end")
			w.out = machine.Success
			return " done", false
		}
		w.setFirst(0)
		w.enter(w.cp, "behind a call")
		return " on", false
	case code.Switch:
		return w.choose(i)
	default:
		return w.rows(at, i)
	}
	return "", false
}

func (w *model) run(pred int) {
	p := w.o.Preds[pred]
	w.setFirst(p.Arity)
	w.b0 = len(w.ways)
	w.enter(p.Entry, "entry")
}

// con lets what c means be a name.
func (w *model) con(con, c cell.Cell) (how string, fails bool) {
	d := w.deref(c)
	switch {
	case d.Kind() == cell.Ref:
		w.bind(d, con)
		return " variable", false
	case d == con:
		return " same", false
	case d.Kind() == cell.Con:
		return " another", true
	}
	return " other kind", true
}

// begin does what parts come behind.
func (w *model) begin(i code.Instr) (how string, fails bool) {
	h := len(w.cells)
	fun := cell.Make(cell.Fun, i.A[0])
	str, lis := i.Op == code.GetStr || i.Op == code.PutStr, cell.Make(cell.Lis, h)
	a, made := i.A[0], lis
	if str {
		a, made = i.A[1], cell.Make(cell.Str, h)
	}
	put := i.Op == code.PutStr || i.Op == code.PutLis
	d := made
	if !put {
		d = w.deref(w.get(a))
	}
	if put || d.Kind() == cell.Ref {
		if str {
			w.push(fun)
		}
		if put {
			w.put(a, made)
		} else {
			w.bind(d, made)
		}
		w.write = true
		return " write", false
	}
	if d.Kind() != made.Kind() {
		return " other kind", true
	}
	if str && w.cells[d.Number()] != fun {
		return " another", true
	}
	w.write, w.s = false, d.Number()
	if str {
		w.s++
	}
	return " read", false
}

// part does what is for parts.
func (w *model) part(i code.Instr) (how string, fails bool) {
	if w.write {
		switch i.Op {
		case code.UniVar:
			w.put(i.A[0], w.newVar())
		case code.UniVal:
			w.push(w.get(i.A[0]))
		case code.UniCon:
			w.push(cell.Make(cell.Con, i.A[0]))
		case code.UniVoid:
			for range i.A[0] {
				w.newVar()
			}
		}
		return " write", false
	}
	s := w.s
	w.s++
	switch i.Op {
	case code.UniVar:
		w.put(i.A[0], w.cells[s])
	case code.UniVal:
		how = w.unify(w.get(i.A[0]), w.cells[s])
		if how == "full" {
			return " full", false
		}
		return " read " + how, how == "other"
	case code.UniCon:
		how, fails = w.con(cell.Make(cell.Con, i.A[0]), w.cells[s])
		return " read" + how, fails
	case code.UniVoid:
		w.s = s + i.A[0]
		must(w.s <= len(w.cells), "parts")
	}
	return " read", false
}

func (w *model) choose(i code.Instr) (how string, fails bool) {
	to := 0
	switch w.deref(w.get(0)).Kind() {
	case cell.Ref:
		to, how = i.A[0], " variable"
	case cell.Con:
		to, how = i.A[1], " con"
	case cell.Lis:
		to, how = i.A[2], " lis"
	case cell.Str:
		to, how = i.A[3], " str"
	}
	if to == code.Nowhere {
		return how + " nowhere", true
	}
	w.pc = to
	return how, false
}

// rows does what is for environments and choices.
func (w *model) rows(at int, i code.Instr) (how string, fails bool) {
	n := len(w.ways)
	switch i.Op {
	case code.Allocate:
		how = " " + []string{"first", "on another"}[min(1, w.behind())]
		if w.next() > w.behind() {
			how = " behind a choice's"
		}
		w.e = &env{at: w.next(), on: w.e, cp: w.cp, places: make([]place, i.A[0])}
		must(w.behind() <= w.room.Words, "words")
	case code.Deallocate:
		w.cp, w.e = w.e.cp, w.e.on
	case code.Try:
		arity := w.own(at)
		for k := range arity {
			w.get(k)
		}
		must(n < w.room.Choices, "choices")
		w.ways = append(w.ways, way{x: slices.Clone(w.x[:arity]), e: w.e.copied(), cp: w.cp, b0: w.b0, next: w.next(), other: i.A[0], cells: slices.Clone(w.cells), trail: slices.Clone(w.trail)})
	case code.Retry:
		w.ways[n-1].other = i.A[0]
	case code.Trust:
		w.ways = w.ways[:n-1]
	case code.GetLevel:
		must(w.e.places[i.A[0]].has == verify.Unset, "a place that is set")
		w.e.places[i.A[0]] = place{verify.Level, uint64(w.b0)}
	case code.NeckCut:
		return w.cut(w.b0), false
	case code.Cut:
		p := w.e.places[i.A[0]]
		must(p.has == verify.Level, "a place that is no Level")
		return w.cut(int(p.bits)), false
	}
	return how, false
}

func (w *model) cut(level int) string {
	n := len(w.ways)
	must(level <= n, "a level above all choices")
	w.ways = w.ways[:level]
	return []string{" none", " one", " more"}[min(2, n-level)]
}

func (w *model) snap() machine.Snap {
	known := w.report.States[w.pc]
	s := machine.Snap{Outcome: w.out, PC: w.pc, CP: w.cp, E: -1, B: len(w.ways), Cells: w.cells, Trail: w.trail}
	if w.e != nil {
		s.E = w.e.at
	}
	if known.Neck {
		s.B0 = w.b0
	}
	if known.Left > 0 {
		s.Write = w.write
		if !w.write {
			s.S = w.s
		}
	}
	for k := range 16 {
		if known.X&(1<<k) != 0 && !w.lack {
			s.X[k] = w.get(k)
		}
		if known.Y[k] == verify.Term || known.Y[k] == verify.Level {
			must(w.e.places[k].has == known.Y[k], "another thing in a place")
			s.Y[k] = w.e.places[k].bits
		}
	}
	return s
}
