package verify

import (
	"cmp"
	"slices"

	"resolvent/code"
	"resolvent/obj"
)

// span is a predicate's code, and how many arguments it has.
type span struct {
	arity, from, end int
}

// spans answers the code of each predicate, in the order in which it stands.
func spans(o obj.Object) []span {
	var l []span
	for _, p := range o.Preds {
		l = append(l, span{arity: p.Arity, from: p.Entry})
	}
	slices.SortFunc(l, func(a, b span) int { return cmp.Compare(a.from, b.from) })
	end := len(o.Code)
	for k := len(l) - 1; k >= 0; k-- {
		l[k].end = end
		end = l[k].from
	}
	return l
}

// behind tells whether l is a place behind n of the same predicate's code, in which n is.
func (s span) behind(n, l int) bool { return l > n && l < s.end }

// leads tells whether all to which the instruction in place n goes may be gone to.
func (s span) leads(n int, i code.Instr) bool {
	if goesOn(i.Op) && !s.behind(n, n+1) {
		return false
	}
	for _, l := range labels(i) {
		if !s.behind(n, l) {
			return false
		}
	}
	return true
}

// place is what is known of an instruction's place while not all that goes there is known yet.
type place struct {
	state State
	come  bool // something goes there
	clash bool // what comes together there doesn't fit
}

// walk goes through code from the first instruction on. As no Label may be but behind its instruction, all that goes to a place is known when the walk is there.
type walk struct {
	object obj.Object
	places []place
}

func newWalk(o obj.Object) *walk {
	return &walk{object: o, places: make([]place, len(o.Code))}
}

// fault answers the place of the first instruction that is wrong (-1: there is none).
func (w *walk) fault() int {
	at := 0
	for _, s := range spans(w.object) {
		if s.from > at {
			return at // ahead of the first Entry, where nothing comes
		}
		w.come(s.from, atEntry(s.arity))
		for at < s.end {
			if !w.pass(s, at) {
				return at
			}
			at++
		}
	}
	if at < len(w.object.Code) {
		return at // there is no predicate
	}
	return -1
}

// pass takes what is known in place n on to where its instruction goes; false: the instruction is wrong.
func (w *walk) pass(s span, n int) bool {
	p, i := w.places[n], w.object.Code[n]
	if p.clash || !p.come || !w.asks(s, i, p.state) || !s.leads(n, i) {
		return false
	}
	next := w.makes(i, p.state)
	if goesOn(i.Op) {
		w.come(n+1, next)
	}
	for _, l := range labels(i) {
		if i.Op == code.Switch {
			w.come(l, next)
		} else {
			w.come(l, atOtherWay(s.arity))
		}
	}
	return true
}

// come brings a State to a place, where it comes together with what came there ahead of it.
func (w *walk) come(n int, s State) {
	p := &w.places[n]
	if !p.come {
		p.state, p.come = s, true
		return
	}
	if !p.state.fits(s) {
		p.clash = true
		return
	}
	p.state = p.state.with(s)
}

// states are of all places, when no instruction is wrong.
func (w *walk) states() []State {
	var l []State
	for _, p := range w.places {
		l = append(l, p.state)
	}
	return l
}

// goesOn tells whether what has an Op goes to the instruction behind it.
func goesOn(op int) bool {
	switch op {
	case code.Fail, code.Execute, code.Proceed, code.Switch:
		return false
	}
	return true
}

// labels are an instruction's, without Nowhere.
func labels(i code.Instr) []int {
	var l []int
	for k, kind := range code.Operands(i.Op) {
		if kind == code.Label && i.A[k] != code.Nowhere {
			l = append(l, i.A[k])
		}
	}
	return l
}
