package asm

import (
	"slices"
	"strings"

	"resolvent/api"
	"resolvent/code"
	"resolvent/heap"
	"resolvent/obj"
	"resolvent/term"
)

// maker makes an object line by line. Until all lines are known its Labels are the numbers that the lines give them.
type maker struct {
	object obj.Object
	labels map[int]int // places, by the labels' numbers
	points []point
}

// point is a line that is to be looked at again when all are known: an instruction's, or a pred line.
type point struct {
	line   int
	place  int // of the instruction, or of the one behind the pred line
	isPred bool
}

// take takes a line's part into the object.
func (m *maker) take(n int, line string) api.Errno {
	if words, is := strings.CutPrefix(line, predWord); is {
		return m.takePred(n, words)
	}
	if strings.HasPrefix(line, labelMark) {
		return m.takeLabel(line)
	}
	return m.takeInstr(n, line)
}

func (m *maker) takePred(n int, word string) api.Errno {
	f, ok := readFun(word, 0)
	if !ok {
		return api.ErrWord
	}
	at := m.pred(f) // ahead of the table, into which it may lay the predicate
	p := &m.object.Preds[at]
	if p.Entry != obj.None {
		return api.ErrTwice
	}
	p.Entry = len(m.object.Code)
	m.points = append(m.points, point{line: n, place: p.Entry, isPred: true})
	return api.OK
}

func (m *maker) takeLabel(word string) api.Errno {
	label, ok := readLabel(word)
	if !ok {
		return api.ErrWord
	}
	if _, had := m.labels[label]; had {
		return api.ErrTwice
	}
	m.labels[label] = len(m.object.Code)
	return api.OK
}

// takeInstr reads what an instruction's words name itself; the others are layer 6's to read, for which a 0 stands where a name stood.
func (m *maker) takeInstr(n int, line string) api.Errno {
	// One word more than there may be is enough to tell that there are too many.
	words := strings.SplitN(line, " ", mostWords+1)
	kinds := code.Operands(code.Named(words[0]))
	if len(words)-1 != len(kinds) {
		return api.ErrWord
	}
	var numbers [4]int
	for k, kind := range kinds {
		word := words[k+1]
		if !isNamed(kind, word) {
			continue
		}
		number, ok := m.number(kind, word)
		if !ok {
			return api.ErrWord
		}
		words[k+1], numbers[k] = "0", number
	}
	i, e := code.Parse(strings.Join(words, " "))
	if e != api.OK {
		return e
	}
	for k, number := range numbers {
		i.A[k] += number
	}
	m.points = append(m.points, point{line: n, place: len(m.object.Code)})
	m.object.Code = append(m.object.Code, i)
	return api.OK
}

// number answers the number of what a word names, which comes into its table, if it wasn't there; false: the word can't be.
func (m *maker) number(kind int, word string) (int, bool) {
	switch kind {
	case code.Atom:
		if !term.Name(word) {
			return 0, false
		}
		return place(&m.object.Names.Atoms, word), true
	case code.Fun:
		f, ok := readFun(word, 1)
		if !ok {
			return 0, false
		}
		return place(&m.object.Names.Funs, f), true
	case code.Pred:
		f, ok := readFun(word, 0)
		if !ok {
			return 0, false
		}
		return m.pred(f), true
	}
	return readLabel(word)
}

// pred answers a predicate's place; the first time it comes behind the others.
func (m *maker) pred(f heap.Fun) int {
	n := obj.Find(m.object, f.Name, f.Arity)
	if n < 0 {
		n = len(m.object.Preds)
		m.object.Preds = append(m.object.Preds, obj.Pred{Name: f.Name, Arity: f.Arity, Entry: obj.None})
	}
	return n
}

// place answers where x is in the table; the first time it comes behind the others.
func place[T comparable](table *[]T, x T) int {
	n := slices.Index(*table, x)
	if n < 0 {
		n = len(*table)
		*table = append(*table, x)
	}
	return n
}

// full tells whether a table has more than there may be.
func (m *maker) full() bool {
	o := &m.object
	return len(o.Names.Atoms) > api.MaxAtoms || len(o.Names.Funs) > api.MaxAtoms || len(o.Preds) > api.MaxPreds || len(o.Code) > api.MaxCode
}

// settle looks at a point when all lines are known, and makes its Labels places.
func (m *maker) settle(p point) api.Errno {
	if p.isPred {
		return m.settlePred(p.place)
	}
	return m.settleLabels(&m.object.Code[p.place])
}

// settlePred looks whether an Entry is a place, and one predicate's alone. Of two of one Entry the first one's line is looked at first, and it is the one that is wrong.
func (m *maker) settlePred(entry int) api.Errno {
	several := 0
	for _, p := range m.object.Preds {
		if p.Entry == entry {
			several++
		}
	}
	if entry >= len(m.object.Code) || several > 1 {
		return api.ErrForm
	}
	return api.OK
}

func (m *maker) settleLabels(i *code.Instr) api.Errno {
	for k, kind := range code.Operands(i.Op) {
		if kind != code.Label || i.A[k] == code.Nowhere {
			continue
		}
		at, there := m.labels[i.A[k]]
		if !there || at >= len(m.object.Code) {
			return api.ErrLabel
		}
		i.A[k] = at
	}
	return api.OK
}
