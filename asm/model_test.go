package asm

import (
	"fmt"
	"math/rand"
	"regexp"
	"slices"
	"strconv"
	"strings"

	"resolvent/api"
	"resolvent/code"
	"resolvent/heap"
	"resolvent/obj"
)

// The limits stand here as the document has them, so that a change of one shows.
const (
	mostNames  = 256
	mostFuns   = 256
	mostPreds  = 64
	mostInstrs = 1024
	elsewhere  = 65535
	noPlace    = 65535
	opSwitch   = 26
)

var opNames = strings.Split("fail getvar getval getcon getstr getlis univar unival unicon univoid putvar putval putcon putstr putlis allocate deallocate call execute proceed try retry trust neckcut getlevel cut switch", " ")

// kinds are the operands of each Op by the document: a letter each, R a Reg, A an Atom, F a Fun, C a Count, S a Size, P a Pred, L a Label.
var kinds = [27]string{"", "RX", "RX", "AX", "FX", "X", "R", "R", "A", "C", "RX", "RX", "AX", "FX", "X", "S", "", "P", "P", "", "L", "L", "", "", "Y", "Y", "LLLL"}

const (
	namePattern  = `[a-z][a-z0-9]{0,31}`
	labelPattern = `@(0|[1-9][0-9]{0,2}|10[01][0-9]|102[0-3])`
)

// words are the patterns of operands' words.
var words = map[rune]*regexp.Regexp{
	'R': regexp.MustCompile(`^[XY]([0-9]|1[0-5])\z`),
	'X': regexp.MustCompile(`^X([0-9]|1[0-5])\z`),
	'Y': regexp.MustCompile(`^Y([0-9]|1[0-5])\z`),
	'A': regexp.MustCompile(`^` + namePattern + `\z`),
	'F': regexp.MustCompile(`^` + namePattern + `/[1-8]\z`),
	'P': regexp.MustCompile(`^` + namePattern + `/[0-8]\z`),
	'C': regexp.MustCompile(`^[1-8]\z`),
	'S': regexp.MustCompile(`^([0-9]|1[0-6])\z`),
	'L': regexp.MustCompile(`^` + labelPattern + `\z`),
}

var (
	predLine  = regexp.MustCompile(`^pred (` + namePattern + `/[0-8])\z`)
	labelLine = regexp.MustCompile(`^` + labelPattern + `\z`)
)

// split answers an instruction's Op and operands' words; false: the line is none.
func split(line string) (op int, operands []string, ok bool) {
	l := strings.Split(line, " ")
	op = slices.Index(opNames, l[0])
	if op < 0 || len(l)-1 != len(kinds[op]) {
		return 0, nil, false
	}
	for k, kind := range kinds[op] {
		if op == opSwitch && l[k+1] == "-" {
			continue
		}
		if !words[kind].MatchString(l[k+1]) {
			return 0, nil, false
		}
	}
	return op, l[1:], true
}

// tables are what a model's lines have met, as words.
type tables struct{ names, funs, preds []string }

func meet(l *[]string, word string) int {
	if !slices.Contains(*l, word) {
		*l = append(*l, word)
	}
	return slices.Index(*l, word)
}

// modelProgram goes by the document's words: what is wrong with each line, then what is wrong with them all, then the object.
func modelProgram(lines []string) (obj.Object, api.Errno, int) {
	var t tables
	seen := map[string]bool{}
	instrs := 0
	for n, line := range lines {
		if predLine.MatchString(line) || labelLine.MatchString(line) {
			if seen[line] {
				return obj.Object{}, api.ErrTwice, n
			}
			seen[line] = true
			if labelLine.MatchString(line) {
				continue
			}
			meet(&t.preds, line[5:])
		} else {
			op, operands, ok := split(line)
			if !ok {
				return obj.Object{}, api.ErrWord, n
			}
			instrs++
			for k, kind := range kinds[op] {
				switch kind {
				case 'A':
					meet(&t.names, operands[k])
				case 'F':
					meet(&t.funs, operands[k])
				case 'P':
					meet(&t.preds, operands[k])
				}
			}
		}
		if len(t.names) > mostNames || len(t.funs) > mostFuns || len(t.preds) > mostPreds || instrs > mostInstrs {
			return obj.Object{}, api.ErrFull, n
		}
	}
	for n, line := range lines {
		if e := modelSettled(lines, n, line); e != api.OK {
			return obj.Object{}, e, n
		}
	}
	return modelObject(lines, t), api.OK, -1
}

// isInstr tells of a line that is one of the document's whether it is an instruction.
func isInstr(line string) bool { return line[0] != '@' && !strings.HasPrefix(line, "pred ") }

// placeBehind is how many instructions stand ahead of a line, and whether one stands behind it.
func placeBehind(lines []string, n int) (int, bool) {
	at := 0
	for _, line := range lines[:n] {
		if isInstr(line) {
			at++
		}
	}
	return at, slices.ContainsFunc(lines[n:], isInstr)
}

// modelSettled tells what is wrong with a line among all.
func modelSettled(lines []string, n int, line string) api.Errno {
	if strings.HasPrefix(line, "pred ") {
		for _, next := range lines[n+1:] {
			if isInstr(next) {
				return api.OK
			}
			if strings.HasPrefix(next, "pred ") {
				return api.ErrForm
			}
		}
		return api.ErrForm
	}
	if !isInstr(line) {
		return api.OK
	}
	for _, word := range strings.Split(line, " ")[1:] {
		if word[0] != '@' {
			continue
		}
		at := slices.Index(lines, word)
		if at < 0 {
			return api.ErrLabel
		}
		if _, there := placeBehind(lines, at); !there {
			return api.ErrLabel
		}
	}
	return api.OK
}

// called splits NAME/A.
func called(word string) (string, int) {
	name, digit, _ := strings.Cut(word, "/")
	n, _ := strconv.Atoi(digit)
	return name, n
}

// modelObject is the object of lines with which nothing is wrong.
func modelObject(lines []string, t tables) obj.Object {
	o := obj.Object{Names: heap.Names{Atoms: t.names}}
	for _, word := range t.funs {
		name, n := called(word)
		o.Names.Funs = append(o.Names.Funs, heap.Fun{Name: name, Arity: n})
	}
	for _, word := range t.preds {
		name, n := called(word)
		entry := elsewhere
		if at := slices.Index(lines, "pred "+word); at >= 0 {
			entry, _ = placeBehind(lines, at)
		}
		o.Preds = append(o.Preds, obj.Pred{Name: name, Arity: n, Entry: entry})
	}
	for _, line := range lines {
		if !isInstr(line) {
			continue
		}
		op, operands, _ := split(line)
		i := code.Instr{Op: op}
		for k, kind := range kinds[op] {
			i.A[k] = modelOperand(lines, t, kind, operands[k])
		}
		o.Code = append(o.Code, i)
	}
	return o
}

func modelOperand(lines []string, t tables, kind rune, word string) int {
	switch kind {
	case 'A':
		return slices.Index(t.names, word)
	case 'F':
		return slices.Index(t.funs, word)
	case 'P':
		return slices.Index(t.preds, word)
	case 'L':
		if word == "-" {
			return noPlace
		}
		at, _ := placeBehind(lines, slices.Index(lines, word))
		return at
	}
	n, _ := strconv.Atoi(strings.TrimLeft(word, "XY"))
	if kind == 'R' && word[0] == 'Y' {
		n += 16
	}
	return n
}

// modelLines goes by the document's words, of an object that is right.
func modelLines(o obj.Object) []string {
	var l []string
	for at, i := range o.Code {
		for _, p := range o.Preds {
			if p.Entry == at {
				l = append(l, fmt.Sprintf("pred %s/%d", p.Name, p.Arity))
			}
		}
		for _, j := range o.Code {
			if strings.HasPrefix(kinds[j.Op], "L") && slices.Contains(j.A[:len(kinds[j.Op])], at) {
				l = append(l, fmt.Sprintf("@%d", at))
				break
			}
		}
		line := opNames[i.Op]
		for k, kind := range kinds[i.Op] {
			line += " " + modelWord(o, kind, i.A[k])
		}
		l = append(l, line)
	}
	return l
}

func modelWord(o obj.Object, kind rune, n int) string {
	switch {
	case kind == 'A':
		return o.Names.Atoms[n]
	case kind == 'F':
		return fmt.Sprintf("%s/%d", o.Names.Funs[n].Name, o.Names.Funs[n].Arity)
	case kind == 'P':
		return fmt.Sprintf("%s/%d", o.Preds[n].Name, o.Preds[n].Arity)
	case kind == 'L' && n == noPlace:
		return "-"
	case kind == 'L':
		return fmt.Sprintf("@%d", n)
	case kind == 'Y' || kind == 'R' && n >= 16:
		return fmt.Sprintf("Y%d", n%16)
	case kind == 'X' || kind == 'R':
		return fmt.Sprintf("X%d", n)
	}
	return fmt.Sprint(n)
}

// someWord is an operand's word by chance; labels are those that there are.
func someWord(r *rand.Rand, op int, kind rune, labels []int) string {
	name := []string{"a", "b", "c0", "pred", "fail", "x1", strings.Repeat("z", 32)}[r.Intn(7)]
	switch kind {
	case 'R':
		return fmt.Sprintf("%c%d", "XY"[r.Intn(2)], r.Intn(16))
	case 'X', 'Y':
		return fmt.Sprintf("%c%d", kind, r.Intn(16))
	case 'A':
		return name
	case 'F':
		return fmt.Sprintf("%s/%d", name, 1+r.Intn(8))
	case 'P':
		return fmt.Sprintf("%s/%d", name, r.Intn(9))
	case 'C':
		return fmt.Sprint(1 + r.Intn(8))
	case 'S':
		return fmt.Sprint(r.Intn(17))
	}
	if op == opSwitch && r.Intn(3) == 0 {
		return "-"
	}
	return fmt.Sprintf("@%d", labels[r.Intn(len(labels))])
}

func someInstr(r *rand.Rand, labels []int) string {
	op := r.Intn(27)
	for len(labels) == 0 && strings.Contains(kinds[op], "L") {
		op = r.Intn(27)
	}
	line := opNames[op]
	for _, kind := range kinds[op] {
		line += " " + someWord(r, op, kind, labels)
	}
	return line
}

// some are lines with which nothing is wrong, by chance: labels and pred lines stand ahead of instructions, but labels that nobody uses may stand at the end.
func some(r *rand.Rand) []string {
	labels := r.Perm(1024)[:r.Intn(6)]
	instrs := 1 + r.Intn(12)
	ahead := make([][]string, instrs)
	for _, label := range labels {
		at := r.Intn(instrs)
		ahead[at] = append(ahead[at], fmt.Sprintf("@%d", label))
	}
	preds := map[string]bool{}
	for at := range ahead {
		if p := someWord(r, 17, 'P', nil); r.Intn(3) == 0 && !preds[p] {
			preds[p] = true
			ahead[at] = slices.Insert(ahead[at], r.Intn(len(ahead[at])+1), "pred "+p)
		}
	}
	var l []string
	for _, lines := range ahead {
		l = append(append(l, lines...), someInstr(r, labels))
	}
	if unused := r.Intn(1024); r.Intn(3) == 0 && !slices.Contains(labels, unused) {
		l = append(l, fmt.Sprintf("@%d", unused))
	}
	return l
}
