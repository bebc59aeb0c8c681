package verify

import (
	"math/rand"
	"slices"
	"strconv"
	"strings"

	"resolvent/api"
	"resolvent/code"
	"resolvent/heap"
	"resolvent/obj"
)

// The numbers stand here as the document has them, so that a change of one shows.
const (
	opCall    = 17
	opExecute = 18
	opProceed = 19
	opTry     = 20
	opRetry   = 21
	opTrust   = 22
	opSwitch  = 26
	elsewhere = 65535
	noPlace   = 65535
)

// kinds are the operands of each Op by the document: a letter each, R a Reg, X an X, A an Atom, F a Fun, C a Count, S a Size, P a Pred, L a Label, Y a Y.
var kinds = [27]string{"", "RX", "RX", "AX", "FX", "X", "R", "R", "A", "C", "RX", "RX", "AX", "FX", "X", "S", "", "P", "P", "", "L", "L", "", "", "Y", "Y", "LLLL"}

// asked is the document's table, a word for each thing that an Op asks beside not Alt: a letter and which operand it is of. l0: Left 0; L: it isn't 0; L n: it is n or more; set; term; may; e: an environment; e0: none; first: of a Pred; own: of the own predicate; neck; alt; level: is one.
var asked = [27]string{
	"l0", "l0 set1 may0", "l0 set1 term0", "l0 set1", "l0 set1", "l0 set0",
	"L may0", "L term0", "L", "Ln0",
	"l0 may0", "l0 term0", "l0", "l0", "l0",
	"l0 e0", "l0 e", "l0 e first0", "l0 e0 first0", "l0 e0",
	"l0 e0 neck own", "l0 alt", "l0 alt",
	"l0 neck", "l0 free0 neck", "l0 level0", "l0 setX0",
}

// made is likewise what an Op makes: term, set; two, fun: parts to come; less: one, or n, less; env, none: of the environment; call; way: not Alt; level.
var made = [27]string{
	"", "term0", "", "", "fun0", "two",
	"term0 less", "less", "less", "lessn0",
	"term0 set1", "set1", "set1", "set1 fun0", "set0 two",
	"env0", "none", "call", "", "",
	"", "way", "way",
	"", "level0", "", "",
}

// onward tells of each Op whether it goes on to the next instruction.
func onward(op int) bool { return !slices.Contains([]int{0, opExecute, opProceed, opSwitch}, op) }

// stand is a State, written another way.
type stand struct {
	x         [16]bool
	env       int
	y         [16]int
	left      int
	alt, neck bool
}

func (s stand) state() State {
	r := State{Env: s.env, Y: s.y, Left: s.left, Alt: s.alt, Neck: s.neck}
	for n, set := range s.x {
		if set {
			r.X += 1 << n
		}
	}
	return r
}

func beginning(arity int, alt bool) stand {
	s := stand{env: -1, alt: alt, neck: true}
	for n := range arity {
		s.x[n] = true
	}
	return s
}

// owner is the Pred in whose code a place is, and where that ends.
func owner(o obj.Object, n int) (obj.Pred, int, bool) {
	var own obj.Pred
	found, end := false, len(o.Code)
	for _, p := range o.Preds {
		if p.Entry <= n && (!found || p.Entry > own.Entry) {
			own, found = p, true
		}
		if p.Entry > n && p.Entry < end {
			end = p.Entry
		}
	}
	return own, end, found
}

// word splits what a table says into its letters and its operand.
func word(s string, i code.Instr) (string, int) {
	k := strings.IndexAny(s, "01")
	if k < 0 || s == "l0" || s == "e0" || s == "setX0" {
		return s, 0
	}
	n, _ := strconv.Atoi(s[k:])
	return s[:k], i.A[n]
}

// holds tells whether one thing that is asked is so.
func (s stand) holds(o obj.Object, own obj.Pred, what string, n int) bool {
	reg := func(at int, inX bool) bool {
		if n < 16 {
			return inX
		}
		return n-16 < s.env && s.y[n-16] == at
	}
	firsts := func(many int) bool {
		for k := range many {
			if !s.x[k] {
				return false
			}
		}
		return true
	}
	switch what {
	case "l0":
		return s.left == 0
	case "L":
		return s.left != 0
	case "Ln":
		return s.left >= n
	case "set":
		return s.x[n]
	case "setX0":
		return s.x[0]
	case "term":
		return reg(1, n < 16 && s.x[n%16])
	case "may":
		return reg(0, true)
	case "free":
		return n < s.env && s.y[n] == 0
	case "level":
		return n < s.env && s.y[n] == 2
	case "e":
		return s.env != -1
	case "e0":
		return s.env == -1
	case "first":
		return firsts(o.Preds[n].Arity)
	case "own":
		return firsts(own.Arity)
	case "neck":
		return s.neck
	case "alt":
		return s.alt
	}
	panic(what)
}

// makes is one thing that is made.
func (s stand) makes(o obj.Object, what string, n int) stand {
	switch what {
	case "term":
		if n < 16 {
			s.x[n] = true
		} else {
			s.y[n-16] = 1
		}
	case "set":
		s.x[n] = true
	case "two":
		s.left = 2
	case "fun":
		s.left = o.Names.Funs[n].Arity
	case "less":
		s.left--
	case "lessn":
		s.left -= n
	case "env":
		s.env = n
	case "none":
		s.env, s.y = -1, [16]int{}
	case "call":
		s.x, s.neck = [16]bool{}, false
	case "way":
		s.alt = false
	case "level":
		s.y[n] = 2
	default:
		panic(what)
	}
	return s
}

// allowed tells whether what an instruction asks of what is known ahead of it is so, but for where it goes.
func allowed(o obj.Object, own obj.Pred, i code.Instr, s stand) bool {
	if s.alt != strings.Contains(asked[i.Op], "alt") {
		return false
	}
	for _, w := range strings.Fields(asked[i.Op]) {
		what, n := word(w, i)
		if !s.holds(o, own, what, n) {
			return false
		}
	}
	return true
}

func behind(o obj.Object, i code.Instr, s stand) stand {
	for _, w := range strings.Fields(made[i.Op]) {
		what, n := word(w, i)
		s = s.makes(o, what, n)
	}
	return s
}

// goneTo are the Labels of an instruction.
func goneTo(i code.Instr) []int {
	var l []int
	for k, kind := range kinds[i.Op] {
		if kind == 'L' && i.A[k] != noPlace {
			l = append(l, i.A[k])
		}
	}
	return l
}

// fitting tells whether an instruction in a place goes only where it may.
func fitting(o obj.Object, n int, i code.Instr) bool {
	_, end, _ := owner(o, n)
	l := goneTo(i)
	if onward(i.Op) {
		l = append(l, n+1)
	}
	for _, to := range l {
		if to <= n || to >= end {
			return false
		}
	}
	return true
}

// comers are what comes to a place of all instructions ahead of it, when what is known of these is known.
func comers(o obj.Object, n int, known []stand) []stand {
	var l []stand
	for m, i := range o.Code[:n] {
		own, _, _ := owner(o, m)
		if onward(i.Op) && m+1 == n {
			l = append(l, behind(o, i, known[m]))
		}
		if !slices.Contains(goneTo(i), n) {
			continue
		}
		if i.Op == opSwitch {
			l = append(l, behind(o, i, known[m]))
		} else {
			l = append(l, beginning(own.Arity, true))
		}
	}
	return l
}

// together is what is known where all these come together; false: they don't fit, or there are none.
func together(l []stand) (stand, bool) {
	if len(l) == 0 {
		return stand{}, false
	}
	all := l[0]
	for _, s := range l {
		if s.env != all.env || s.left != all.left || s.alt != all.alt {
			return stand{}, false
		}
		all.neck = all.neck && s.neck
		for k := range all.x {
			all.x[k] = all.x[k] && s.x[k]
			if s.y[k] != l[0].y[k] {
				all.y[k] = 3
			}
		}
	}
	return all, true
}

// ahead is what is known ahead of the instruction in a place; false: nothing comes there, or what comes doesn't fit.
func ahead(o obj.Object, n int, known []stand) (stand, bool) {
	own, _, found := owner(o, n)
	if found && own.Entry == n {
		return beginning(own.Arity, false), true
	}
	return together(comers(o, n, known))
}

// modelStates are what is known of each place; or the first one that is wrong.
func modelStates(o obj.Object) ([]stand, int) {
	var known []stand
	for n, i := range o.Code {
		own, _, _ := owner(o, n)
		s, come := ahead(o, n, known)
		if !come || !allowed(o, own, i, s) || !fitting(o, n, i) {
			return nil, n
		}
		known = append(known, s)
	}
	return known, -1
}

// modelCheck goes by the document's words.
func modelCheck(o obj.Object) (Report, api.Errno, int) {
	if e := obj.Check(o); e != api.OK {
		return Report{}, e, -1
	}
	for _, p := range o.Preds {
		if p.Entry == elsewhere {
			return Report{}, api.ErrUnknown, -1
		}
	}
	known, at := modelStates(o)
	if at >= 0 {
		return Report{}, api.ErrVerify, at
	}
	var r Report
	for n, s := range known {
		r.States = append(r.States, s.state())
		r.Needs = append(r.Needs, modelNeed(o, n))
	}
	return r, api.OK, -1
}

// comes is what comes by one instruction.
func comes(o obj.Object, i code.Instr) Need {
	switch i.Op {
	case 4, 13:
		return Need{1 + o.Names.Funs[i.A[0]].Arity, 0, 0}
	case 5, 14:
		return Need{2, 0, 0}
	case 10:
		return Need{1, 0, 0}
	case 15:
		return Need{0, 3 + i.A[0], 0}
	case opTry:
		return Need{0, 0, 1}
	}
	return Need{}
}

// modelNeed goes all ways from a place to its boundaries, one by one.
func modelNeed(o obj.Object, n int) Need {
	var most Need
	var walk func(n int, so Need)
	walk = func(n int, so Need) {
		i := o.Code[n]
		c := comes(o, i)
		so = Need{so.Cells + c.Cells, so.Words + c.Words, so.Choices + c.Choices}
		most = Need{max(most.Cells, so.Cells), max(most.Words, so.Words), max(most.Choices, so.Choices)}
		if i.Op == opSwitch {
			for _, l := range goneTo(i) {
				walk(l, so)
			}
		} else if onward(i.Op) && i.Op != opCall {
			walk(n+1, so)
		}
	}
	walk(n, Need{})
	return most
}

func sameReport(a, b Report) bool {
	return slices.Equal(a.States, b.States) && slices.Equal(a.Needs, b.Needs)
}

// copied is an object in memory of its own.
func copied(o obj.Object) obj.Object {
	return obj.Object{Names: heap.Names{Atoms: slices.Clone(o.Names.Atoms), Funs: slices.Clone(o.Names.Funs)}, Preds: slices.Clone(o.Preds), Code: slices.Clone(o.Code)}
}

// tables are what the objects by chance name.
func tables() obj.Object {
	var o obj.Object
	o.Names.Atoms = []string{"a", "b"}
	for n := range 8 {
		o.Names.Funs = append(o.Names.Funs, heap.Fun{Name: "f", Arity: 1 + n})
	}
	return o
}

// greatestOf is the greatest operand of a kind that may stand in an object; the least is 0, of a Count 1.
func greatestOf(o obj.Object, kind rune) int {
	switch kind {
	case 'R':
		return 31
	case 'X', 'Y':
		return 15
	case 'A':
		return len(o.Names.Atoms) - 1
	case 'F':
		return len(o.Names.Funs) - 1
	case 'C':
		return 8
	case 'S':
		return 16
	case 'P':
		return len(o.Preds) - 1
	}
	return len(o.Code) - 1
}

// rare are the Ops that seldom find what they ask, so they are tried more often.
var rare = [...]int{1, 2, 2, 2, 10, 11, 15, 17, 20, 21, 21, 24, 24, 24, 25, 25, 25, 25, 25, 26}

// near are most operands of a kind by chance: a few ones, so that several instructions go to the same.
func near(r *rand.Rand, o obj.Object, kind rune, n int) int {
	switch kind {
	case 'C':
		return 1 + r.Intn(2)
	case 'R':
		return 16*r.Intn(2) + r.Intn(3)
	case 'X', 'Y':
		return r.Intn(3)
	case 'S':
		return r.Intn(5)
	case 'L':
		return min(n+1+r.Intn(4), len(o.Code)-1)
	}
	return r.Intn(greatestOf(o, kind) + 1)
}

// someInstr is an instruction that may stand in place n of an object, by chance.
func someInstr(r *rand.Rand, o obj.Object, n int) code.Instr {
	i := code.Instr{Op: r.Intn(27)}
	if r.Intn(2) == 0 {
		i.Op = rare[r.Intn(len(rare))]
	}
	for k, kind := range kinds[i.Op] {
		switch {
		case i.Op == opSwitch && r.Intn(3) == 0:
			i.A[k] = noPlace
		case kind == 'C' || r.Intn(6) > 0:
			i.A[k] = near(r, o, kind, n)
		default:
			i.A[k] = r.Intn(greatestOf(o, kind) + 1)
		}
	}
	return i
}

// someObject is an object by chance, of whose code most can be trusted, and all of it often. The Preds stand in another order than their code.
func someObject(r *rand.Rand) obj.Object {
	o := tables()
	places := 0
	for n := range 1 + r.Intn(4) {
		p := obj.Pred{Name: "p" + strconv.Itoa(n), Arity: r.Intn(9), Entry: places}
		if r.Intn(2) == 0 {
			p.Arity = r.Intn(3)
		}
		o.Preds = append(o.Preds, p)
		places += 1 + r.Intn(14)
	}
	o.Code = make([]code.Instr, places)
	r.Shuffle(len(o.Preds), func(a, b int) { o.Preds[a], o.Preds[b] = o.Preds[b], o.Preds[a] })
	var known []stand
	for n := range o.Code {
		s, _ := ahead(o, n, known)
		known = append(known, s)
		for range 300 {
			o.Code[n] = someInstr(r, o, n)
			if goesWell(o, n, known) {
				break
			}
		}
	}
	return o
}

// goesWell tells whether the code up to place n can go on behind it, where each instruction is a fail yet.
func goesWell(o obj.Object, n int, known []stand) bool {
	own, end, _ := owner(o, n)
	i := o.Code[n]
	if !allowed(o, own, i, known[n]) || !fitting(o, n, i) {
		return false
	}
	for to := n + 1; to < end; to++ {
		l := comers(o, to, known)
		if _, fit := together(l); !fit && (to == n+1 || len(l) > 0) {
			return false
		}
	}
	return true
}

// turned is the object with one thing in it turned by chance.
func turned(r *rand.Rand, o obj.Object) obj.Object {
	o = copied(o)
	n := r.Intn(len(o.Code))
	switch r.Intn(7) {
	case 0:
		o.Code[n] = someInstr(r, o, n)
	case 1:
		if many := len(kinds[o.Code[n].Op]); many > 0 {
			k := r.Intn(many)
			o.Code[n].A[k] = max(0, o.Code[n].A[k]+1-2*r.Intn(2))
		}
	case 2:
		m := r.Intn(len(o.Code))
		o.Code[n], o.Code[m] = o.Code[m], o.Code[n]
	case 3:
		o.Code = slices.Delete(o.Code, n, n+1)
	case 4:
		o.Code = slices.Insert(o.Code, n, o.Code[r.Intn(len(o.Code))])
	case 5:
		p := &o.Preds[r.Intn(len(o.Preds))]
		p.Entry = max(0, p.Entry+1-2*r.Intn(2))
	case 6:
		p := &o.Preds[r.Intn(len(o.Preds))]
		p.Arity = max(0, min(8, p.Arity+1-2*r.Intn(2)))
	}
	return o
}

// trusted is an object by chance that can be trusted.
func trusted(r *rand.Rand) obj.Object {
	for {
		o := someObject(r)
		if _, e, _ := modelCheck(o); e == api.OK {
			return o
		}
	}
}
