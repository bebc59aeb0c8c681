package verify

import (
	"strconv"
	"strings"
	"testing"

	"resolvent/api"
	"resolvent/code"
	"resolvent/obj"
)

// holdStates holds what is known of each place, a text for each with a semicolon between: the registers as a number, Env, the places of an environment as digits (or -), Left, and A, N where Alt, Neck are.
func holdStates(t *testing.T, text, want string) {
	t.Helper()
	r := holdRight(t, text)
	var l []string
	for _, s := range r.States {
		y := ""
		for k, has := range s.Y {
			if k < s.Env {
				y += strconv.Itoa(has)
			} else if has != 0 {
				t.Error(text, s)
			}
		}
		if y == "" {
			y = "-"
		}
		told := strconv.Itoa(int(s.X)) + " " + strconv.Itoa(s.Env) + " " + y + " " + strconv.Itoa(s.Left)
		if s.Alt {
			told += " A"
		}
		if s.Neck {
			told += " N"
		}
		l = append(l, told)
	}
	if got := strings.Join(l, "; "); got != want {
		t.Errorf("%v: %v; should be %v", text, got, want)
	}
}

// P11.1: what is known ahead of each instruction: what each makes of the State.
func TestStates(t *testing.T) {
	holdStates(t, "pred p/2, getvar X2 X1, getval X2 X0, getcon a X1, getstr f/3 X0, univar X4, unival X1, unicon a, getlis X1, univoid 2, proceed",
		"3 -1 - 0 N; 7 -1 - 0 N; 7 -1 - 0 N; 7 -1 - 0 N; 7 -1 - 3 N; 23 -1 - 2 N; 23 -1 - 1 N; 23 -1 - 0 N; 23 -1 - 2 N; 23 -1 - 0 N")
	holdStates(t, "pred p/0, putvar X1 X3, putval X3 X5, putcon a X0, putstr f/8 X15, univoid 7, unival X15, putlis X2, univar X4, univar X4, fail",
		"0 -1 - 0 N; 10 -1 - 0 N; 42 -1 - 0 N; 43 -1 - 0 N; 32811 -1 - 8 N; 32811 -1 - 1 N; 32811 -1 - 0 N; 32815 -1 - 2 N; 32831 -1 - 1 N; 32831 -1 - 0 N")
	holdStates(t, "pred p/1, allocate 3, getlevel Y2, getvar Y0 X0, putvar Y1 X1, call p/1, cut Y2, putval Y0 X0, deallocate, execute p/1",
		"1 -1 - 0 N; 1 3 000 0 N; 1 3 002 0 N; 1 3 102 0 N; 3 3 112 0 N; 0 3 112 0; 0 3 112 0; 1 3 112 0; 1 -1 - 0")
	holdStates(t, "pred p/1, allocate 16, getstr f/1 X0, univar Y15, getlevel Y14, deallocate, allocate 1, neckcut, deallocate, proceed",
		"1 -1 - 0 N; 1 16 0000000000000000 0 N; 1 16 0000000000000000 1 N; 1 16 0000000000000001 0 N; 1 16 0000000000000021 0 N; 1 -1 - 0 N; 1 1 0 0 N; 1 1 0 0 N; 1 -1 - 0 N")
	holdStates(t, "pred p/1, allocate 0, deallocate, putcon a X1, try @7, proceed, @7, retry @8, fail, @8, trust, neckcut, proceed, pred q/0, proceed",
		"1 -1 - 0 N; 1 0 - 0 N; 1 -1 - 0 N; 3 -1 - 0 N; 3 -1 - 0 N; 1 -1 - 0 A N; 1 -1 - 0 N; 1 -1 - 0 A N; 1 -1 - 0 N; 1 -1 - 0 N; 0 -1 - 0 N")
	holdStates(t, "pred p/1, switch @1 @2 @3 @3, @1, getcon a X0, @2, putcon a X1, @3, fail, pred q/8, fail",
		"1 -1 - 0 N; 1 -1 - 0 N; 1 -1 - 0 N; 1 -1 - 0 N; 255 -1 - 0 N")
}

// P11.1: the first registers of an Entry, and of another way, are as many as the arity.
func TestArities(t *testing.T) {
	for n, x := range []uint32{0, 1, 3, 7, 15, 31, 63, 127, 255} {
		r := holdRight(t, "pred p/"+strconv.Itoa(n)+", putcon a X12, try @9, proceed, @9, trust, proceed")
		if r.States[0] != (State{X: x, Env: -1, Neck: true}) || r.States[1].X != x+4096 || r.States[3] != (State{X: x, Env: -1, Alt: true, Neck: true}) || r.States[4].X != x {
			t.Error(n, r.States)
		}
	}
}

// P11.1: ways that come together with the same, and with another, Env, Left and Alt.
func TestMeetFits(t *testing.T) {
	sw := "pred p/1, switch @1 @2 - -, @1, "
	for _, c := range []struct {
		text string
		at   int // -1: they fit
	}{
		{"getcon a X0, @2, fail", -1},
		{"allocate 0, @2, fail", 2},
		{"allocate 1, @2, fail", 2},
		{"allocate 1, deallocate, @2, fail", -1},
		{"allocate 1, switch @3 @4 - -, @2, allocate 1, @3, fail, @4, fail", -1},
		{"allocate 0, switch @3 - - -, @2, allocate 0, @3, fail", -1},
		{"allocate 1, switch @3 - - -, @2, allocate 2, @3, fail", 4},
		{"allocate 2, switch @3 - - -, @2, allocate 1, @3, fail", 4},
		{"allocate 16, switch @3 - - -, @2, allocate 15, @3, fail", 4},
		{"allocate 2, switch @3 - - -, @2, getcon a X0, @3, fail", 4},
		{"getlis X0, @2, univoid 2, fail", 2},
		{"getlis X0, univoid 2, @2, fail", -1},
		{"getlis X0, univoid 1, @2, univoid 1, fail", 3},
		{"putstr f/1 X0, @2, fail", 2},
		{"try @2, fail, @2, fail", 3},
		{"try @2, fail, @2, trust, fail", 3},
		{"try @3, fail, @2, fail, @3, trust, fail", -1},
		{"try @3, switch @3 - - -, @2, fail, @3, trust, fail", 4},
		{"try @3, proceed, @2, try @3, fail, @3, trust, fail", -1},
		{"try @3, proceed, @2, putcon a X0, @3, trust, fail", 4},
		{"try @3, proceed, @2, try @4, switch @4 - - -, @3, retry @4, fail, @4, trust, fail", 7},
	} {
		if c.at < 0 {
			holdRight(t, sw+c.text)
		} else {
			holdWrong(t, sw+c.text, c.at)
		}
	}
	holdWrong(t, "pred p/0, try @1, @1, trust, fail", 1)
	holdWrong(t, "pred p/0, try @1, @1, fail", 1)
	holdWrong(t, "pred p/0, try @2, fail, @2, retry @3, @3, trust, fail", 3)
	holdWrong(t, "pred p/0, try @3, fail, fail, @3, trust, fail", 2)
	// What doesn't fit counts in its own place, not where it came from, and ahead of what is wrong behind.
	holdWrong(t, "pred p/1, switch @1 @3 - -, @1, allocate 1, getcon a X0, @3, getcon a X0, getcon a X9, fail", 3)
	// The third of three ways is another one.
	holdWrong(t, "pred p/1, switch @1 @3 @4 -, @1, getcon a X0, switch - - - @4, @3, allocate 0, @4, fail", 4)
	holdWrong(t, "pred p/1, switch @1 @3 @3 @4, @1, allocate 0, switch - - - @4, @3, getcon a X0, @4, fail", 4)
}

// P11.1: registers that are set on one of two ways, or on both, or on one of three.
func TestMeetRegisters(t *testing.T) {
	holdStates(t, "pred p/1, switch @1 @3 - -, @1, putcon a X1, putcon a X2, @3, fail", "1 -1 - 0 N; 1 -1 - 0 N; 3 -1 - 0 N; 1 -1 - 0 N")
	holdStates(t, "pred p/1, switch @1 @4 - -, @1, putcon a X1, putcon a X2, switch @6 - - -, @4, putcon a X3, putcon a X2, @6, fail", "1 -1 - 0 N; 1 -1 - 0 N; 3 -1 - 0 N; 7 -1 - 0 N; 1 -1 - 0 N; 9 -1 - 0 N; 5 -1 - 0 N")
	holdRight(t, "pred p/1, switch @1 @4 - -, @1, putcon a X1, putcon a X2, switch @6 - - -, @4, putcon a X3, putcon a X2, @6, getcon a X2, fail")
	for _, x := range []string{"X1", "X3"} {
		holdWrong(t, "pred p/1, switch @1 @4 - -, @1, putcon a X1, putcon a X2, switch @6 - - -, @4, putcon a X3, putcon a X2, @6, getcon a "+x+", fail", 6)
	}
	holdWrong(t, "pred p/1, switch @1 @3 @5 -, @1, putcon a X1, switch @6 - - -, @3, putcon a X1, switch @6 - - -, @5, putcon a X2, @6, getcon a X1, fail", 6)
	holdRight(t, "pred p/1, switch @1 @3 @5 -, @1, putcon a X1, switch @6 - - -, @3, putcon a X1, switch @6 - - -, @5, putcon a X1, @6, getcon a X1, fail")
	// Behind a call on one of two ways none is set.
	holdStates(t, "pred p/1, allocate 0, switch @2 @3 - -, @2, call p/1, @3, fail", "1 -1 - 0 N; 1 0 - 0 N; 1 0 - 0 N; 0 0 - 0")
}

// P11.1: places that are the same on two ways, or on three, and such that aren't.
func TestMeetPlaces(t *testing.T) {
	kinds := []string{"getcon a X0", "getvar Y0 X0", "getlevel Y0"}
	both := [3][3]int{{0, 3, 3}, {3, 1, 3}, {3, 3, 2}}
	for a := range 3 {
		for b := range 3 {
			two := "pred p/1, allocate 2, switch @2 @4 - -, @2, " + kinds[a] + ", switch @5 - - -, @4, " + kinds[b] + ", @5, "
			r := holdRight(t, two+"fail")
			if y := r.States[5].Y; y != [16]int{both[a][b]} || r.States[5].Env != 2 {
				t.Error(a, b, y)
			}
			at := -1
			if both[a][b] != 1 {
				at = 5
			}
			holdEither(t, two+"putval Y0 X0, fail", at)
			at = -1
			if both[a][b] != 0 {
				at = 5
			}
			holdEither(t, two+"putvar Y0 X0, fail", at)
			holdEither(t, two+"getlevel Y0, fail", at)
			at = -1
			if both[a][b] != 2 {
				at = 5
			}
			holdEither(t, two+"cut Y0, fail", at)
			holdEither(t, two+"putval Y1 X0, fail", 5)
			for c := range 3 {
				want := 3
				if a == b && b == c {
					want = a
				}
				three := "pred p/1, allocate 2, switch @2 @4 @6 -, @2, " + kinds[a] + ", switch @7 - - -, @4, " + kinds[b] + ", switch @7 - - -, @6, " + kinds[c] + ", @7, fail"
				if y := holdRight(t, three).States[7].Y; y != [16]int{want} {
					t.Error(a, b, c, y)
				}
			}
		}
	}
	// Mixed and Mixed is Mixed, and so it is with others; a new environment has all Unset again.
	mixed := "pred p/1, allocate 1, switch @2 @3 - -, @2, getvar Y0 X0, @3, "
	holdStates(t, mixed+"switch @4 @5 - -, @4, getcon a X0, @5, deallocate, allocate 1, getvar Y0 X0, fail", "1 -1 - 0 N; 1 1 0 0 N; 1 1 0 0 N; 1 1 3 0 N; 1 1 3 0 N; 1 1 3 0 N; 1 -1 - 0 N; 1 1 0 0 N; 1 1 1 0 N")
	for k, last := range kinds {
		text := "pred p/1, allocate 1, switch @2 @3 @5 -, @2, getvar Y0 X0, @3, getcon a X0, switch @6 - - -, @5, " + last + ", @6, fail"
		if y := holdRight(t, text).States[6].Y; y[0] != Mixed {
			t.Error(k, y)
		}
	}
}

// holdEither holds that all can be trusted (-1), or where it is wrong.
func holdEither(t *testing.T, text string, at int) {
	t.Helper()
	if at < 0 {
		holdRight(t, text)
	} else {
		holdWrong(t, text, at)
	}
}

// P11.1: the level is there where it is on all ways.
func TestMeetNeck(t *testing.T) {
	for _, last := range []string{"neckcut", "getlevel Y0"} {
		holdRight(t, "pred p/1, allocate 1, switch @2 @3 - -, @2, getcon a X0, @3, "+last+", fail")
		holdWrong(t, "pred p/1, allocate 1, switch @2 @3 - -, @2, call p/1, @3, "+last+", fail", 3)
		holdWrong(t, "pred p/1, allocate 1, switch @2 @4 - -, @2, getcon a X0, switch @5 - - -, @4, call p/1, @5, "+last+", fail", 5)
		holdWrong(t, "pred p/1, allocate 1, switch @2 @4 - -, @2, call p/1, proceed, @4, call p/1, @5, "+last+", fail", 3)
		holdWrong(t, "pred p/1, allocate 1, switch @2 @4 - -, @2, call p/1, fail, @4, call p/1, @5, "+last+", fail", 5)
	}
}

// labelled are instructions that go to one Label, wherever it is, and X0 is set.
var labelled = []string{"try @", "switch @ - - -", "switch - @ - -", "switch - - @ -", "switch - - - @", "switch @ @ @ @"}

func toLabel(s string, l int) string { return strings.ReplaceAll(s, "@", "@"+strconv.Itoa(l)) }

// P11.1: Labels at, ahead of and behind their own place, of another predicate's code ahead and behind, and at its Entry: each wrong one in its instruction's own place. Fails may be gone to by a switch, a trust by a try.
func TestLabels(t *testing.T) {
	for _, s := range labelled {
		to := "fail"
		if s == "try @" {
			to = "trust"
		}
		// The instruction is in place 4, in the midst of q's code; all ten places have a Label.
		text := "pred o/1, @0, getcon a X0, @1, proceed, pred q/1, @2, getcon a X0, @3, getcon a X0, @4, " + s + ", "
		if to == "trust" {
			text += "@5, proceed, @6, trust, proceed, "
		} else {
			text += "@6, fail, "
		}
		text += "pred r/1, @8, getcon a X0, @9, proceed, pred s/1, @10, proceed"
		for _, l := range []int{0, 1, 2, 3, 4, 8, 9, 10} {
			holdWrong(t, toLabelIn(text, s, l), 4)
		}
		holdRight(t, toLabelIn(text, s, 6))
		// At its own place, where that is the Entry, and the only one of the code.
		holdWrong(t, "pred q/1, @0, "+toLabel(s, 0)+", fail", 0)
		holdWrong(t, "pred q/1, @0, "+toLabel(s, 0), 0)
		holdWrong(t, "pred q/1, getcon a X0, @1, "+toLabel(s, 0)+", @0, pred r/1, fail", 1)
	}
	// retry, in place 3: to itself, ahead, the Entry, another predicate's, and behind.
	for l, at := range map[int]int{0: 3, 1: 3, 3: 3, 2: 3, 7: 3, 8: 3, 4: 4, 5: -1} {
		text := "pred q/1, @0, getcon a X0, @1, try @3, @2, proceed, @3, retry @, @4, proceed, @5, trust, @6, proceed, pred r/1, @7, trust, @8, proceed"
		text = strings.Replace(strings.Replace(text, "retry @", "retry @"+strconv.Itoa(l), 1), "pred r/1, @7, trust", "pred r/1, @7, getcon a X0", 1)
		holdEither(t, text, at)
	}
}

// toLabelIn is a text in which the first instruction that is s has the Label l.
func toLabelIn(text, s string, l int) string {
	return strings.Replace(text, ", "+s+", ", ", "+toLabel(s, l)+", ", 1)
}

// P11.1: each of a switch's four Labels is looked at; Nowhere is no place; all may be Nowhere, also in the last place.
func TestSwitch(t *testing.T) {
	for k := range 4 {
		for _, l := range []int{0, 1, 5, 6, 1023} {
			o := program(t, "pred p/1, getcon a X0, switch @2 @3 @4 @2, @2, getcon a X0, @3, getcon a X0, @4, proceed, pred q/0, proceed, proceed")
			o.Code[1].A[k] = l
			switch {
			case l == 1023:
				holdFault(t, l, o, api.ErrOperand, -1)
			default:
				holdFault(t, l, o, api.ErrVerify, 1)
			}
		}
	}
	for mask := range 16 {
		o := program(t, "pred p/1, switch - - - -, fail, pred q/0, fail")
		for k := range 4 {
			if mask>>k&1 == 1 {
				o.Code[0].A[k] = 1
			}
		}
		if mask == 0 {
			holdFault(t, mask, o, api.ErrVerify, 1) // nothing comes there
			continue
		}
		holdObject(t, mask, o)
	}
	holdRight(t, "pred p/1, switch - - - -")
	holdRight(t, "pred p/1, switch - - - -, pred q/1, getcon a X0, switch - - - -")
	holdWrong(t, "pred p/0, switch - - - -", 0)
	// It doesn't go on to the one behind it, unless that has its Label.
	holdWrong(t, "pred p/1, switch @2 - - -, proceed, @2, proceed", 1)
	holdRight(t, "pred p/1, switch @1 @2 - -, @1, proceed, @2, proceed")
}

// P11.1: code that ends without an instruction that goes nowhere on, at the end of all and ahead of another Entry.
func TestEnds(t *testing.T) {
	for _, behind := range []string{"", ", pred z/2, proceed", ", pred z/8, proceed", ", pred z/0, proceed"} {
		for _, s := range []string{"getvar X0 X1", "getval X0 X1", "getcon a X0", "getstr f/2 X0", "getlis X0", "putvar X0 X1", "putval X0 X1", "putcon a X0", "putstr f/1 X0", "putlis X0", "allocate 0", "neckcut"} {
			holdWrong(t, "pred p/2, "+s+behind, 0)
		}
		for _, s := range []string{"univar X0", "unival X0", "unicon a", "univoid 1"} {
			holdWrong(t, "pred p/2, putstr f/1 X0, "+s+behind, 1)
		}
		for _, s := range []string{"deallocate", "call p/2", "getlevel Y0"} {
			holdWrong(t, "pred p/2, allocate 1, "+s+behind, 1)
		}
		holdWrong(t, "pred p/2, allocate 1, getlevel Y0, cut Y0"+behind, 2)
		holdWrong(t, "pred p/2, try @2, fail, @2, trust"+behind, 2)
		holdWrong(t, "pred p/2, try @3, fail, @2, trust, @3, retry @2"+behind, 2)
		holdWrong(t, "pred p/2, try @1, @1, try @1"+behind, 1)
		for _, s := range []string{"fail", "proceed", "execute p/2", "switch - - - -"} {
			holdRight(t, "pred p/2, "+s+behind)
		}
	}
	// A try, and a retry, in the last place have no place behind them at all.
	o := program(t, "pred p/0, try @2, fail, @2, retry @3, @3, fail")
	o.Code = o.Code[:3]
	o.Code[2].A[0] = 2
	holdFault(t, "retry", o, api.ErrVerify, 2)
	o.Code[2] = code.Make(opTry, 2)
	holdFault(t, "try", o, api.ErrVerify, 2)
}

// P11.1: instructions that nothing comes to, ahead of the first Entry, in the middle and at the end.
func TestNotComeTo(t *testing.T) {
	for _, s := range []string{"fail", "proceed", "execute p/2", "switch - - - -"} {
		holdWrong(t, "pred p/2, "+s+", proceed", 1)
		holdWrong(t, "pred p/2, "+s+", proceed, pred q/0, proceed", 1)
		holdWrong(t, "pred p/2, getcon a X0, "+s+", neckcut, fail, pred q/0, proceed", 2)
		holdWrong(t, "pred q/0, proceed, pred p/2, "+s+", trust", 2)
		holdRight(t, "pred p/2, "+s+", pred q/2, "+s)
	}
	// Ahead of the first Entry.
	holdWrong(t, "proceed, pred p/0, proceed", 0)
	holdWrong(t, "getcon a X0, getcon a X0, pred p/1, proceed", 0)
	holdWrong(t, "try @2, fail, pred p/1, @2, trust, proceed", 0)
	holdWrong(t, "execute p/1, pred p/1, getcon a X9, proceed", 0)
	// In the middle: behind an instruction that nothing comes to nothing comes, whatever it is.
	holdWrong(t, "pred p/1, switch @3 - - -, getcon a X0, getcon a X0, @3, proceed", 1)
	holdWrong(t, "pred p/1, switch @1 @3 - -, @1, proceed, switch @3 - - -, @3, proceed", 2)
	// A Label that is ahead brings nobody: what is wrong counts in its place, and what nothing comes to in its own.
	holdWrong(t, "pred p/1, getcon a X0, @1, getcon a X0, try @1, fail", 2)
	holdWrong(t, "pred p/1, switch @2 - - -, @1, proceed, @2, switch @1 - - -", 1)
}

// P11.1: no Entry is come to but by a call, an execute or the beginning: what is known there is the same wherever it stands.
func TestEntry(t *testing.T) {
	r := holdRight(t, "pred p/3, allocate 4, getvar Y0 X0, call q/2, deallocate, execute q/0, pred q/2, fail, pred q/0, try @1, fail, @1, trust, fail, pred q/1, fail")
	for n, x := range map[int]uint32{0: 7, 5: 3, 6: 0, 10: 1} {
		if r.States[n] != (State{X: x, Env: -1, Neck: true}) {
			t.Error(n, r.States[n])
		}
	}
	holdWrong(t, "pred p/0, getcon a X0, pred q/1, proceed", 0)
	holdWrong(t, "pred p/1, getcon a X0, pred q/1, proceed", 0)
	o := program(t, "pred p/1, switch @1 @1 - -, @1, getcon a X0, proceed")
	o.Preds = append(o.Preds, obj.Pred{Name: "q", Arity: 1, Entry: 1})
	holdFault(t, "a Label at an Entry", o, api.ErrVerify, 0)
	o.Preds[1].Entry = 2
	holdFault(t, "an Entry behind", o, api.ErrVerify, 1)
}
