package code

import (
	"math"
	"math/rand"
	"slices"
	"strings"
	"testing"
)

// The kinds of operands and the limits stand here as the document has them, so that a change of one shows.
const (
	isReg   = 1
	isX     = 2
	isAtom  = 3
	isFun   = 4
	isCount = 5
	isSize  = 6
	isPred  = 7
	isLabel = 8
	isY     = 9

	noPlace = 65535
	opCount = 27
	opTry   = 20
	opRetry = 21
	opWhere = 26
)

// row is one of the document's table, whose rows are in the order of their Ops.
type row struct {
	name     string
	operands []int
}

var rows = [opCount]row{
	{"fail", nil},
	{"getvar", []int{isReg, isX}},
	{"getval", []int{isReg, isX}},
	{"getcon", []int{isAtom, isX}},
	{"getstr", []int{isFun, isX}},
	{"getlis", []int{isX}},
	{"univar", []int{isReg}},
	{"unival", []int{isReg}},
	{"unicon", []int{isAtom}},
	{"univoid", []int{isCount}},
	{"putvar", []int{isReg, isX}},
	{"putval", []int{isReg, isX}},
	{"putcon", []int{isAtom, isX}},
	{"putstr", []int{isFun, isX}},
	{"putlis", []int{isX}},
	{"allocate", []int{isSize}},
	{"deallocate", nil},
	{"call", []int{isPred}},
	{"execute", []int{isPred}},
	{"proceed", nil},
	{"try", []int{isLabel}},
	{"retry", []int{isLabel}},
	{"trust", nil},
	{"neckcut", nil},
	{"getlevel", []int{isY}},
	{"cut", []int{isY}},
	{"switch", []int{isLabel, isLabel, isLabel, isLabel}},
}

// ends are from where to where an operand of a kind goes, by the kind.
var ends = [10][2]int{isReg: {0, 31}, isX: {0, 15}, isAtom: {0, 255}, isFun: {0, 255}, isCount: {1, 8}, isSize: {0, 16}, isPred: {0, 63}, isLabel: {0, 1023}, isY: {0, 15}}

// wrongOps are numbers of no Op, those too that wrap round to one.
var wrongOps = []int{-1, -2, -26, -27, -255, 27, 28, 31, 32, 255, 256, 256 + 1, 65535, 65536, 1 << 32, 1<<32 + 1, 1 << 62, math.MinInt, math.MinInt + 1, math.MaxInt}

// mayBe tells by the document whether an Op may have n as an operand of a kind.
func mayBe(op, kind, n int) bool {
	return n >= ends[kind][0] && n <= ends[kind][1] || n == noPlace && op == opWhere
}

// all are all operands of a kind that an Op may have.
func all(op, kind int) []int {
	var l []int
	for n := ends[kind][0]; n <= ends[kind][1]; n++ {
		l = append(l, n)
	}
	if op == opWhere {
		l = append(l, noPlace)
	}
	return l
}

// probes are numbers within, at and beyond all limits.
func probes() []int {
	l := []int{math.MinInt, math.MinInt + 1, -1 << 62, -1 << 32, 1 << 32, 1<<32 + 1, 1<<32 + noPlace, 1 << 62, math.MaxInt - 15, math.MaxInt - 1, math.MaxInt}
	for n := -300; n <= 1300; n++ {
		l = append(l, n)
	}
	for _, middle := range []int{2047, 4096, -4096, 32768, -32768, noPlace, -noPlace, 1 << 16, 1<<16 + 1023, 1<<17 - 1} {
		for n := middle - 3; n <= middle+3; n++ {
			l = append(l, n)
		}
	}
	return l
}

// least is the instruction of an Op that has of each kind of operand the least one.
func least(op int) Instr {
	i := Instr{Op: op}
	for k, kind := range rows[op].operands {
		i.A[k] = ends[kind][0]
	}
	return i
}

// some is an instruction that may be, of an Op.
func some(r *rand.Rand, op int) Instr {
	i := Instr{Op: op}
	for k, kind := range rows[op].operands {
		l := all(op, kind)
		i.A[k] = l[r.Intn(len(l))]
		switch r.Intn(4) {
		case 0:
			i.A[k] = l[0]
		case 1:
			i.A[k] = l[len(l)-1]
		}
	}
	return i
}

// each does something with all instructions that may be; of switches, with each label in each place, the others by chance.
func each(do func(i Instr)) {
	r := rand.New(rand.NewSource(6))
	for op := range rows {
		kinds := rows[op].operands
		switch {
		case op == opWhere:
			for k := range kinds {
				for _, n := range all(op, isLabel) {
					i := some(r, op)
					i.A[k] = n
					do(i)
				}
			}
		case len(kinds) == 0:
			do(Instr{Op: op})
		case len(kinds) == 1:
			for _, n := range all(op, kinds[0]) {
				do(Instr{Op: op, A: [4]int{n}})
			}
		default:
			for _, n := range all(op, kinds[0]) {
				for _, m := range all(op, kinds[1]) {
					do(Instr{Op: op, A: [4]int{n, m}})
				}
			}
		}
	}
}

// P6.1: the numbers of Ops and of kinds are those of the document.
func TestNumbers(t *testing.T) {
	ops := []int{Fail, GetVar, GetVal, GetCon, GetStr, GetLis, UniVar, UniVal, UniCon, UniVoid, PutVar, PutVal, PutCon, PutStr, PutLis, Allocate, Deallocate, Call, Execute, Proceed, Try, Retry, Trust, NeckCut, GetLevel, Cut, Switch}
	if len(ops) != opCount {
		t.Fatal(len(ops))
	}
	for want, op := range ops {
		if op != want {
			t.Error(op, want)
		}
	}
	for k, kind := range []int{Reg, X, Atom, Fun, Count, Size, Pred, Label, Y} {
		if kind != k+1 {
			t.Error(kind, k+1)
		}
	}
	if Nowhere != noPlace {
		t.Error(Nowhere)
	}
}

// P6.1: the document's example.
func TestExample(t *testing.T) {
	i := Make(GetVar, 17, 2)
	if i != (Instr{Op: 1, A: [4]int{17, 2}}) || !Right(i) || Text(i) != "getvar Y1 X2" {
		t.Error(i, Text(i))
	}
}

// P6.1: each Op of the table has its operands, and a number beside them none.
func TestOperands(t *testing.T) {
	for op, r := range rows {
		if got := Operands(op); !slices.Equal(got, r.operands) {
			t.Error(op, got, r.operands)
		}
	}
	for _, op := range wrongOps {
		if got := Operands(op); len(got) != 0 {
			t.Error(op, got)
		}
	}
}

// P6.1: each Op of the table has its name, and a number beside them none.
func TestNames(t *testing.T) {
	for op, r := range rows {
		if Name(op) != r.name || Named(r.name) != op {
			t.Error(op, Name(op), Named(r.name))
		}
	}
	for _, op := range wrongOps {
		if s := Name(op); s != "" {
			t.Error(op, s)
		}
	}
}

// P6.1: what is almost a name is none.
func TestNoName(t *testing.T) {
	for _, s := range []string{"", " ", "-", "0", "1", "nop", "none", "Fail", "FAIL", "jump", "getvarval", "get", "getvar X0", "fail\x00", "fail\n", "f\u00e4il", "\xff", strings.Repeat("fail", 1000)} {
		if op := Named(s); op != -1 {
			t.Errorf("%.40q: %d", s, op)
		}
	}
	for _, r := range rows {
		s := r.name
		for _, other := range []string{s + " ", " " + s, s + "s", s[1:], s[:len(s)-1], strings.ToUpper(s), strings.ToUpper(s[:1]) + s[1:], s + s, s + "\x00"} {
			if op := Named(other); op != -1 {
				t.Errorf("%q: %d", other, op)
			}
		}
	}
}

// P6.1: Make takes the first four operands, and puts 0 where there is none, whether that may be or not.
func TestMake(t *testing.T) {
	given := []int{17, -2, math.MaxInt, math.MinInt, 5, 6, 7}
	for _, op := range append([]int{0, 1, 9, 19, 26}, wrongOps...) {
		for n := range len(given) + 1 {
			want := Instr{Op: op}
			for k := 0; k < n && k < 4; k++ {
				want.A[k] = given[k]
			}
			if got := Make(op, given[:n]...); got != want {
				t.Error(op, n, got)
			}
		}
		if Make(op) != Make(op, nil...) || Make(op) != (Instr{Op: op}) {
			t.Error(op, Make(op))
		}
	}
	many := make([]int, 1<<16)
	many[3], many[4] = 4, 5
	if i := Make(Switch, many...); i != (Instr{Op: 26, A: [4]int{0, 0, 0, 4}}) {
		t.Error(i)
	}
}

// P6.1: of operands that lack there are noughts, which may be or not; of more than four those behind count nothing.
func TestFewerAndMore(t *testing.T) {
	for n, c := range []struct {
		i    Instr
		text string
	}{
		{Make(GetVar), "getvar X0 X0"}, {Make(GetVar, 17), "getvar Y1 X0"}, {Make(GetVar, 17, 2, 0), "getvar Y1 X2"}, {Make(GetVar, 17, 2, 0, 0), "getvar Y1 X2"}, {Make(GetVar, 17, 2, 0, 0, 9), "getvar Y1 X2"},
		{Make(GetVar, 17, 2, 3), ""}, {Make(GetVar, 17, 2, 0, 3), ""}, {Make(GetVar, 17, 2, -1), ""},
		{Make(Fail), "fail"}, {Make(Fail, 0), "fail"}, {Make(Fail, 0, 0, 0, 0, 1), "fail"}, {Make(Fail, 1), ""}, {Make(Fail, 0, 1), ""}, {Make(Fail, 0, 0, 1), ""}, {Make(Fail, 0, 0, 0, 1), ""},
		{Make(UniVoid), ""}, {Make(UniVoid, 1), "univoid 1"}, {Make(Allocate), "allocate 0"},
		{Make(Switch), "switch 0 0 0 0"}, {Make(Switch, 1, noPlace, 3), "switch 1 - 3 0"}, {Make(Switch, 1, 2, noPlace, 4, 5), "switch 1 2 - 4"},
		{Make(Try), "try 0"}, {Make(Try, 7, noPlace), ""}, {Make(Proceed, noPlace), ""},
	} {
		if Text(c.i) != c.text || Right(c.i) != (c.text != "") {
			t.Errorf("%d: %q", n, Text(c.i))
		}
	}
}

// P6.1: each operand of each Op may be what the document says, just within its limits, and nothing just beyond.
func TestRightOperands(t *testing.T) {
	for op, r := range rows {
		for k := range 4 {
			for _, n := range probes() {
				i := least(op)
				i.A[k] = n
				want := n == 0
				if k < len(r.operands) {
					want = mayBe(op, r.operands[k], n)
				}
				if Right(i) != want {
					t.Error(i, Right(i))
				}
			}
		}
	}
}

// P6.1: all operands must be such as may be, not one of them alone.
func TestRightTogether(t *testing.T) {
	l := []int{-1, 0, 1, 8, 9, 15, 16, 17, 31, 32, 63, 64, 255, 256, 1023, 1024, noPlace - 1, noPlace, noPlace + 1}
	for op, r := range rows {
		for _, n := range l {
			for _, m := range l {
				for _, rest := range []int{0, 1, noPlace} {
					i := Instr{Op: op, A: [4]int{n, m, rest, 0}}
					want := true
					for k, x := range i.A {
						want = want && (k < len(r.operands) && mayBe(op, r.operands[k], x) || k >= len(r.operands) && x == 0)
					}
					if Right(i) != want {
						t.Error(i, Right(i))
					}
				}
			}
		}
	}
}

// P6.1: Nowhere may be in each place of a switch, and in no other instruction.
func TestNowhere(t *testing.T) {
	for k := range 4 {
		i := Make(Switch, 1, 2, 3, 4)
		i.A[k] = noPlace
		words := []string{"1", "2", "3", "4"}
		words[k] = "-"
		if want := "switch " + strings.Join(words, " "); !Right(i) || Text(i) != want {
			t.Errorf("%q", Text(i))
		}
	}
	if i := Make(Switch, noPlace, noPlace, noPlace, noPlace); Text(i) != "switch - - - -" {
		t.Errorf("%q", Text(i))
	}
	for _, op := range []int{opTry, opRetry} {
		if i := Make(op, noPlace); Right(i) || Text(i) != "" {
			t.Error(i)
		}
	}
}

// P6.1: numbers beside the Ops make no instruction, whatever the operands.
func TestRightOps(t *testing.T) {
	for _, op := range wrongOps {
		for _, i := range []Instr{Make(op), Make(op, 1), Make(op, 1, 1), Make(op, 1, 2, 3, 4), Make(op, noPlace)} {
			if Right(i) || Text(i) != "" {
				t.Error(i)
			}
		}
	}
}

// P6.1: all instructions that may be are Right.
func TestAllRight(t *testing.T) {
	each(func(i Instr) {
		if !Right(i) {
			t.Error(i)
		}
	})
}

// P6.1: instructions compare by ==, by their Op and each of their operands.
func TestCompare(t *testing.T) {
	i := Make(Switch, 1, 2, 3, 4)
	if i != Make(Switch, 1, 2, 3, 4, 5) {
		t.Error("the same are others")
	}
	for _, other := range []Instr{Make(Cut, 1, 2, 3, 4), Make(Switch, 0, 2, 3, 4), Make(Switch, 1, 0, 3, 4), Make(Switch, 1, 2, 0, 4), Make(Switch, 1, 2, 3)} {
		if i == other {
			t.Error(other)
		}
	}
}

// P6.3: who changes an answer, or its spare room, changes no other.
func TestOperandsAreNew(t *testing.T) {
	for op, r := range rows {
		first, second := Operands(op), Operands(op)
		first = first[:cap(first)]
		for k := range first {
			first[k] = 99
		}
		if !slices.Equal(second, r.operands) || !slices.Equal(Operands(op), r.operands) {
			t.Error(op, second, Operands(op))
		}
		if i := least(op); !Right(i) {
			t.Error(i)
		}
	}
}

// P6.3: what is handed in isn't changed, its spare room neither, and not kept.
func TestMakeKeepsNothing(t *testing.T) {
	for n := range 7 {
		l := []int{1, 2, 3, 4, 5, 6, 7, 8}
		i := Make(Switch, l[:n]...)
		if !slices.Equal(l, []int{1, 2, 3, 4, 5, 6, 7, 8}) {
			t.Error(n, l)
		}
		was := i
		for k := range l {
			l[k] = 90
		}
		if i != was {
			t.Error(n, i)
		}
		i.A[0] = 80
		if l[0] != 90 {
			t.Error(n, l)
		}
	}
}

// P1, P6.1: all calls end without a panic, and hang on what they are given alone.
func TestWrongInstrsEnd(t *testing.T) {
	r := rand.New(rand.NewSource(61))
	l := probes()
	for range 20000 {
		i := Instr{Op: r.Intn(30) - 1}
		for k := range i.A {
			if r.Intn(3) > 0 {
				i.A[k] = l[r.Intn(len(l))]
			}
		}
		a, b := Text(i), Text(i)
		if a != b || (a != "") != Right(i) {
			t.Error(i, a, b, Right(i))
		}
	}
	for _, i := range []Instr{
		{Op: math.MinInt, A: [4]int{math.MinInt, math.MaxInt, math.MinInt, math.MaxInt}},
		{Op: math.MaxInt, A: [4]int{math.MaxInt, math.MinInt, -1, noPlace}},
		{Op: opWhere, A: [4]int{math.MinInt, math.MaxInt, math.MinInt, math.MaxInt}},
	} {
		if Right(i) || Text(i) != "" {
			t.Error(i, Text(i))
		}
	}
}
