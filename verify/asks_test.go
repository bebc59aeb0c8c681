package verify

import (
	"strconv"
	"strings"
	"testing"

	"resolvent/api"
	"resolvent/code"
	"resolvent/obj"
)

// How what stands behind an instruction must go on: so many parts are to come (0 and more), or it is wrong itself, or it goes nowhere on.
const (
	wrong = -1
	ends  = -2
)

// What stands ahead. none: X0 and X1 are set, there is no environment.
const none = "pred p/2"

// env: X0 and X1 are set; of an environment of four Y0 is Unset, Y1 a Term, Y2 a Level, Y3 Mixed; then likewise where so many parts are to come, behind a call, and behind a deallocate.
const (
	env    = "pred p/2, allocate 4, getvar Y1 X0, getlevel Y2, switch @4 @5 - -, @4, getvar Y3 X0, @5"
	parts3 = env + ", getstr f/3 X0"
	parts8 = env + ", putstr f/8 X0"
	parts1 = parts8 + ", univoid 7"
	called = env + ", call r/0"
	gone   = called + ", deallocate"
)

// preds are there in all programs.
const preds = "pred r/0, proceed, pred r/2, proceed, pred r/3, proceed, pred r/8, proceed"

// places are how many instructions lines have.
func places(text string) int {
	n := 0
	for _, s := range strings.Split(text, ", ") {
		if !strings.HasPrefix(s, "pred ") && !strings.HasPrefix(s, "@") {
			n++
		}
	}
	return n
}

// holdAsk holds an instruction behind what stands ahead. It is wrong in its own place, or all can be trusted when what must come behind it does.
func holdAsk(t *testing.T, before, instr string, left int) {
	t.Helper()
	rest := ", fail, "
	if left > 0 {
		rest = ", univoid " + strconv.Itoa(left) + rest
	}
	if left == ends {
		rest = ", "
	}
	text := before + ", " + instr + rest + preds
	if left == wrong {
		holdWrong(t, text, places(before))
		return
	}
	holdRight(t, text)
	switch {
	case left == ends:
		holdWrong(t, before+", "+instr+", fail, "+preds, places(before)+1)
	case left > 0:
		holdWrong(t, before+", "+instr+", fail, "+preds, places(before)+1)
		holdWrong(t, before+", "+instr+", "+preds, places(before))
		if left < 8 {
			holdWrong(t, before+", "+instr+", univoid "+strconv.Itoa(left+1)+", fail, "+preds, places(before)+1)
		}
	default:
		holdWrong(t, before+", "+instr+", univoid 1, fail, "+preds, places(before)+1)
		holdWrong(t, before+", "+instr+", "+preds, places(before))
	}
}

// holdAsks holds instructions of one kind: each text is instructions with a comma and a blank between.
func holdAsks(t *testing.T, before string, left int, instrs string) {
	t.Helper()
	for _, i := range strings.Split(instrs, ", ") {
		holdAsk(t, before, i, left)
	}
}

// P11.1: what stands ahead is as it is said.
func TestWhatStandsAhead(t *testing.T) {
	y := [16]int{Unset, Term, Level, Mixed}
	for _, c := range []struct {
		before string
		want   State
	}{
		{none, State{X: 3, Env: -1, Neck: true}},
		{env, State{X: 3, Env: 4, Y: y, Neck: true}},
		{parts3, State{X: 3, Env: 4, Y: y, Left: 3, Neck: true}},
		{parts8, State{X: 3, Env: 4, Y: y, Left: 8, Neck: true}},
		{parts1, State{X: 3, Env: 4, Y: y, Left: 1, Neck: true}},
		{called, State{Env: 4, Y: y}},
		{gone, State{Env: -1}},
	} {
		rest := ", fail, "
		if c.want.Left > 0 {
			rest = ", univoid " + strconv.Itoa(c.want.Left) + rest
		}
		if s := holdRight(t, c.before+rest+preds).States[places(c.before)]; s != c.want {
			t.Errorf("%v: %v; should be %v", c.before, s, c.want)
		}
	}
}

// P11.1: what each instruction asks, just so and not so, without an environment.
func TestAskWithoutEnvironment(t *testing.T) {
	holdAsks(t, none, 0, "getvar X0 X0, getvar X15 X1, getvar X1 X0, getval X0 X1, getval X1 X0, getval X0 X0, getcon a X0, getcon a X1")
	holdAsks(t, none, wrong, "getvar X2 X2, getvar X0 X2, getvar X0 X15, getvar Y0 X0, getvar Y15 X0, getval X2 X0, getval X0 X2, getval X15 X0, getval X0 X15, getval Y0 X0, getval Y1 X0, getcon a X2, getcon a X15, getstr f/1 X2, getstr f/8 X15, getlis X2, getlis X15")
	holdAsks(t, none, 1, "getstr f/1 X0, getstr f/1 X1, putstr f/1 X0, putstr f/1 X15")
	holdAsks(t, none, 2, "getstr f/2 X0, getlis X0, getlis X1, putstr f/2 X15, putlis X0, putlis X2, putlis X15")
	holdAsks(t, none, 8, "getstr f/8 X0, putstr f/8 X2, putstr f/8 X0")
	holdAsks(t, none, wrong, "univar X0, univar X15, univar Y0, unival X0, unival Y0, unicon a, univoid 1, univoid 8")
	holdAsks(t, none, 0, "putvar X0 X0, putvar X0 X1, putvar X15 X14, putval X0 X15, putval X1 X1, putval X1 X0, putcon a X0, putcon a X2, putcon a X15, allocate 0, allocate 1, allocate 16, neckcut")
	holdAsks(t, none, wrong, "putvar Y0 X0, putvar Y15 X15, putval X2 X0, putval X2 X2, putval X15 X0, putval Y0 X0, deallocate, call r/0, call r/2, call r/8, execute r/3, execute r/8, trust, getlevel Y0, getlevel Y15, cut Y0, cut Y15")
	holdAsks(t, none, ends, "fail, proceed, execute r/0, execute r/2, switch - - - -")
	holdAsk(t, none, "retry @1000, trust, @1000", wrong)
	holdAsk(t, env, "retry @1000, trust, @1000", wrong)
	holdAsk(t, "pred q/0", "execute r/0", ends)
	holdAsks(t, "pred q/0", wrong, "execute r/2, switch - - - -, getcon a X0, getvar X0 X0, putval X0 X0")
	holdAsks(t, "pred q/8", ends, "execute r/8, switch - - - -")
	holdAsk(t, "pred q/7", "execute r/8", wrong)
	holdAsk(t, "pred q/8, allocate 0", "call r/8", 0)
	holdAsk(t, "pred q/7, allocate 0", "call r/8", wrong)
	holdAsk(t, "pred q/0, putcon a X1", "switch - - - -", wrong)
	holdAsk(t, "pred q/0, putcon a X0", "switch - - - -", ends)
	holdAsk(t, "pred q/1, putcon a X2", "execute r/3", wrong)
	holdAsk(t, "pred q/1, putcon a X2, putvar X9 X1", "execute r/3", ends)
	holdAsk(t, "pred q/2, putval X0 X2", "execute r/3", ends)
}

// P11.1: likewise, with an environment, whose places are of all kinds.
func TestAskWithEnvironment(t *testing.T) {
	holdAsks(t, env, 0, "getvar X3 X0, getvar Y0 X0, getvar Y0 X1, getval X0 X1, getval Y1 X0, getval Y1 X1, getcon a X0, putvar X0 X5, putvar Y0 X5, putval X0 X5, putval Y1 X5, putcon a X5, deallocate, call r/0, call r/2, neckcut, getlevel Y0, cut Y2")
	holdAsks(t, env, wrong, "getvar Y0 X2, getvar Y1 X0, getvar Y2 X0, getvar Y3 X0, getvar Y4 X0, getvar Y15 X0, getval Y0 X0, getval Y2 X0, getval Y3 X0, getval Y4 X0, getval Y15 X0, getval Y1 X2")
	holdAsks(t, env, wrong, "putvar Y1 X0, putvar Y2 X0, putvar Y3 X0, putvar Y4 X0, putvar Y15 X0, putval X2 X0, putval Y0 X0, putval Y2 X0, putval Y3 X0, putval Y4 X0, putval Y15 X0")
	holdAsks(t, env, wrong, "univar X0, univar Y0, unival X0, unival Y1, unicon a, univoid 1, allocate 0, allocate 1, allocate 4, allocate 16, call r/3, call r/8, execute r/0, execute r/2, execute r/8, proceed, trust")
	holdAsks(t, env, wrong, "getlevel Y1, getlevel Y2, getlevel Y3, getlevel Y4, getlevel Y15, cut Y0, cut Y1, cut Y3, cut Y4, cut Y15")
	holdAsks(t, env, 2, "getlis X0, putlis X5, getstr f/2 X1")
	holdAsks(t, env, ends, "fail, switch - - - -")
	for n := range 17 {
		before := "pred q/1, allocate " + strconv.Itoa(n)
		for y := range 16 {
			left := wrong
			if y < n {
				left = 0
			}
			name := "Y" + strconv.Itoa(y)
			holdAsks(t, before, left, "getvar "+name+" X0, putvar "+name+" X0, getlevel "+name)
			holdAsks(t, before, wrong, "getval "+name+" X0, putval "+name+" X0, cut "+name)
			holdAsk(t, before+", getlis X0, unicon a", "univar "+name, left)
		}
	}
}

// P11.1: likewise, behind a call, where no register is set and the level isn't there, but places are as they were; and behind a deallocate.
func TestAskBehindCall(t *testing.T) {
	holdAsks(t, called, 0, "putvar X0 X1, putvar Y0 X0, putval Y1 X0, putcon a X0, call r/0, deallocate, cut Y2")
	holdAsks(t, called, wrong, "getvar X0 X0, getvar X0 X1, getvar Y0 X0, getval X0 X0, getval Y1 X0, getcon a X0, getstr f/2 X0, getlis X0, putval X0 X0, putval X1 X0, call r/2, call r/3, execute r/0, proceed, allocate 0, neckcut, getlevel Y0, cut Y1, putval Y2 X0, putvar Y3 X0, switch - - - -")
	holdAsk(t, called, "fail", ends)
	holdAsk(t, called+", putcon a X0", "switch - - - -", ends)
	holdAsk(t, called+", putcon a X0", "call r/2", wrong)
	holdAsk(t, called+", putcon a X1", "call r/2", wrong)
	holdAsk(t, called+", putcon a X1, putlis X0, univoid 2", "call r/2", 0)
	holdAsk(t, called+", putvar Y0 X0", "putvar Y0 X0", wrong)
	holdAsk(t, called+", putvar Y0 X0, call r/0", "putval Y0 X0", 0)
	holdAsks(t, gone, 0, "allocate 0, allocate 16, putcon a X0")
	holdAsks(t, gone, ends, "fail, proceed, execute r/0")
	holdAsks(t, gone, wrong, "deallocate, call r/0, execute r/2, getcon a X0, neckcut, getlevel Y0, cut Y2, putval Y1 X0, putvar Y0 X0")
	holdAsks(t, gone+", allocate 4", wrong, "getlevel Y0, neckcut, cut Y2, putval Y1 X0, allocate 4, proceed")
	holdAsks(t, gone+", allocate 4", 0, "putvar Y1 X0, putvar Y2 X0, putvar Y3 X0, deallocate, call r/0")
	holdAsks(t, "pred q/2, allocate 1, getlevel Y0, deallocate", 0, "neckcut, allocate 1, getcon a X1")
	holdAsks(t, "pred q/2, allocate 1, getlevel Y0, deallocate", ends, "execute r/2, proceed")
	holdAsk(t, "pred q/2, allocate 1, getlevel Y0, deallocate, allocate 1", "cut Y0", wrong)
	holdAsk(t, "pred q/2, allocate 1, getlevel Y0, deallocate, allocate 1", "getlevel Y0", 0)
}

// P11.1: likewise, where parts are to come: just enough, and one too few.
func TestAskParts(t *testing.T) {
	for before, n := range map[string]int{parts3: 3, parts8: 8, parts1: 1, none + ", getlis X0": 2, none + ", putlis X1": 2, none + ", putstr f/1 X9": 1, none + ", getstr f/1 X1": 1, none + ", getstr f/8 X1": 8} {
		holdAsks(t, before, n-1, "univar X0, univar X15, unival X0, unival X1, unicon a")
		holdAsks(t, before, wrong, "unival X15, unival X7")
		for many := 1; many <= 8; many++ {
			left := wrong
			if many <= n {
				left = n - many
			}
			holdAsk(t, before, "univoid "+strconv.Itoa(many), left)
		}
		for _, i := range others {
			holdAsk(t, before, i, wrong)
		}
	}
	for before, n := range map[string]int{parts3: 3, parts8: 8, parts1: 1} {
		holdAsks(t, before, n-1, "univar Y0, unival Y1")
		holdAsks(t, before, wrong, "univar Y1, univar Y2, univar Y3, univar Y4, univar Y15, unival Y0, unival Y2, unival Y3, unival Y4, unival Y15")
	}
	holdAsks(t, none+", getlis X0", wrong, "univar Y0, unival Y0")
	holdAsk(t, none+", putlis X9", "unival X9", 1) // the register is set ahead of its parts
	holdAsk(t, none+", putstr f/1 X9", "unival X9", 0)
	holdAsk(t, none+", getlis X0, univar X9", "unival X9", 0)
}

// others are instructions, one of each Op that isn't for parts, all of which could stand behind env, or none, but for what they ask of parts and ways.
var others = []string{"fail", "getvar X3 X0", "getval X0 X1", "getcon a X0", "getstr f/1 X0", "getlis X0", "putvar X3 X4", "putval X0 X1", "putcon a X0", "putstr f/1 X0", "putlis X0", "allocate 1", "deallocate", "call r/0", "execute r/0", "proceed", "try @1000, trust, @1000", "retry @1000, trust, @1000", "trust", "neckcut", "getlevel Y0", "cut Y2", "switch - - - -"}

// P11.1: what is come to as another way: trust and retry alone may stand there, and nowhere else.
func TestAskOtherWay(t *testing.T) {
	before := "pred q/2, try @2, proceed, @2"
	for _, i := range append([]string{"univar X3", "unival X0", "unicon a", "univoid 1"}, others...) {
		if !strings.HasPrefix(i, "retry") && i != "trust" {
			holdAsk(t, before, i, wrong)
		}
	}
	holdAsk(t, before, "trust", 0)
	holdAsk(t, before+", trust", "trust", wrong)
	holdAsk(t, before+", trust", "retry @1000, @1000", wrong)
	holdRight(t, "pred q/2, try @2, proceed, @2, retry @4, proceed, @4, retry @6, fail, @6, trust, proceed")
	holdWrong(t, "pred q/2, try @2, proceed, @2, retry @4, proceed, @4, retry @6, fail, @6, proceed", 6)
	holdWrong(t, "pred q/2, try @2, proceed, @2, retry @4, proceed, @4, retry @6, fail, @6, try @7, @7, trust, fail", 6)
	holdWrong(t, "pred q/2, try @2, proceed, @2, retry @4, retry @4, @4, trust, proceed", 3)
	// Several tries have one other way; what is set beside the arguments isn't set there.
	holdRight(t, "pred q/2, try @3, try @3, proceed, @3, trust, proceed")
	r := holdRight(t, "pred q/2, putcon a X5, try @4, getcon a X5, fail, @4, trust, getcon a X1, proceed")
	if r.States[1].X != 35 || r.States[2].X != 35 || r.States[4] != (State{X: 3, Env: -1, Alt: true, Neck: true}) || r.States[5] != (State{X: 3, Env: -1, Neck: true}) {
		t.Error(r.States)
	}
	holdWrong(t, "pred q/2, putcon a X5, try @3, proceed, @3, trust, getcon a X5, fail", 4)
}

// P11.1: try asks for no environment, the level, and the arguments.
func TestAskTry(t *testing.T) {
	for _, before := range []string{"pred q/0", "pred q/2", "pred q/8", "pred q/2, neckcut", "pred q/2, allocate 3, deallocate", "pred q/2, putcon a X0", "pred q/2, switch @8 - - -, @8"} {
		holdRight(t, before+", try @9, fail, @9, trust, fail")
		holdRight(t, before+", try @9, fail, @9, retry @10, fail, @10, trust, try @11, fail, @11, trust, fail")
		holdRight(t, before+", try @9, neckcut, allocate 1, getlevel Y0, fail, @9, trust, neckcut, allocate 1, getlevel Y0, fail")
	}
	holdWrong(t, "pred q/2, allocate 0, try @2, @2, trust, fail", 1)
	holdWrong(t, "pred q/0, allocate 0, call q/0, deallocate, try @5, fail, @5, trust, fail", 3)
	holdWrong(t, "pred q/2, allocate 0, call q/2, deallocate, putcon a X0, putcon a X1, try @7, fail, @7, trust, fail", 5)
	holdWrong(t, "pred q/2, putlis X0, try @2, @2, trust, fail", 1)
}

// before are what stands ahead where all instructions are tried.
var before = []string{none, env, parts1, parts3, parts8, called, gone, "pred q/0", "pred q/8", none + ", getlis X1", none + ", getlis X1, univoid 1", "pred q/3, try @2, fail, @2", "pred q/3, try @2, fail, @2, trust", "pred q/2, allocate 16", called + ", putlis X0", called + ", putcon a X0", called + ", putcon a X1, putcon a X0"}

// each tells every instruction that may stand in place n; of such with Labels, that go to a place or two, a few.
func each(o obj.Object, n int, tell func(i code.Instr)) {
	for op, of := range kinds {
		rows := []code.Instr{{Op: op}}
		for k, kind := range of {
			var more []code.Instr
			for _, i := range rows {
				for _, a := range choices(o, n, op, kind) {
					i.A[k] = a
					more = append(more, i)
				}
			}
			rows = more
		}
		for _, i := range rows {
			tell(i)
		}
	}
}

// choices are which operands of a kind each has an instruction in place n have.
func choices(o obj.Object, n, op int, kind rune) []int {
	if op == opSwitch {
		return []int{noPlace, n + 1}
	}
	if kind == 'L' {
		return []int{n + 2}
	}
	var l []int
	for a := range greatestOf(o, kind) + 1 {
		if kind != 'C' || a > 0 {
			l = append(l, a)
		}
	}
	return l
}

// allNames is a predicate that has names and Funs in an object's tables, f/1 to f/8 ahead of all others.
func allNames() string {
	text := "pred names/0, putcon a X0, putcon b X0, "
	for n := range 8 {
		text += "putstr f/" + strconv.Itoa(n+1) + " X0, univoid " + strconv.Itoa(n+1) + ", "
	}
	return text + "fail, "
}

// knownAt is what is known ahead of the instruction in a place.
func knownAt(o obj.Object, n int) stand {
	var known []stand
	for m := range n + 1 {
		s, _ := ahead(o, m, known)
		known = append(known, s)
	}
	return known[n]
}

// rest is what must stand behind an instruction in the last place, so that all can be trusted.
func rest(i code.Instr, left int) []code.Instr {
	fail := code.Instr{}
	switch {
	case i.Op == opTry || i.Op == opRetry:
		return []code.Instr{fail, {Op: opTrust}, fail}
	case !onward(i.Op) && len(goneTo(i)) == 0:
		return nil
	case left > 0:
		return []code.Instr{code.Make(9, left), fail}
	}
	return []code.Instr{fail}
}

// P11.1: all instructions, behind each of what may stand ahead: what they ask is so or not, and behind them is known what the document's table says.
func TestAllInstructions(t *testing.T) {
	for _, b := range before {
		o := program(t, allNames()+preds+", "+b+", fail")
		n := len(o.Code) - 1
		o.Code[n] = code.Instr{}
		known := knownAt(o, n)
		own, _, _ := owner(o, n)
		right := 0
		each(o, n, func(i code.Instr) {
			x := copied(o)
			x.Code[n] = i
			if !allowed(x, own, i, known) {
				x.Code = append(x.Code, rest(i, 0)...)
				holdFault(t, b+": "+code.Text(i), x, api.ErrVerify, n)
				return
			}
			x.Code = append(x.Code, rest(i, behind(x, i, known).left)...)
			holdObject(t, b+": "+code.Text(i), x)
			right++
		})
		if right == 0 {
			t.Error(b)
		}
	}
}
