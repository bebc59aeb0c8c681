package asm

import (
	"fmt"
	"math/rand"
	"slices"
	"strings"
	"testing"

	"resolvent/api"
	"resolvent/code"
	"resolvent/heap"
	"resolvent/obj"
)

// holdError holds Program of lines with which something is wrong against what should be, and that there is no object then.
func holdError(t *testing.T, want api.Errno, at int, lines ...string) {
	t.Helper()
	o, e, n := Program(lines...)
	if e != want || n != at || !obj.Same(o, obj.Object{}) {
		t.Errorf("%.200q: %v, %v, %d; should be %v, %d", lines, o, e.Word(), n, want.Word(), at)
	}
}

// holdObject holds Program of lines with which nothing is wrong against the object that should be.
func holdObject(t *testing.T, want obj.Object, lines ...string) {
	t.Helper()
	o, e, n := Program(lines...)
	if e != api.OK || n != -1 || !obj.Same(o, want) {
		t.Errorf("%.200q: %v, %v, %d; should be %v", lines, o, e.Word(), n, want)
	}
	if e := obj.Check(o); e != api.OK {
		t.Errorf("%.200q: Check: %v", lines, e.Word())
	}
}

// hold holds Program of lines against the model.
func hold(t *testing.T, lines []string) api.Errno {
	t.Helper()
	want, e, at := modelProgram(lines)
	if e == api.OK {
		holdObject(t, want, lines...)
	} else {
		holdError(t, e, at, lines...)
	}
	return e
}

// numbered are lines made of numbers from 0 on.
func numbered(many int, line func(n int) string) []string {
	var l []string
	for n := range many {
		l = append(l, line(n))
	}
	return l
}

// P9.1: the document's example.
func TestExample(t *testing.T) {
	holdObject(t, obj.Object{
		Names: heap.Names{Atoms: []string{"a"}},
		Preds: []obj.Pred{{Name: "p", Arity: 1, Entry: 0}},
		Code:  []code.Instr{code.Make(code.GetCon, 0, 0), code.Make(code.Proceed)},
	}, "pred p/1", "getcon a X0", "proceed")
}

// P9.1: of no lines, and of lines without instructions, there is an object.
func TestNothing(t *testing.T) {
	holdObject(t, obj.Object{})
	holdObject(t, obj.Object{}, []string{}...)
	holdObject(t, obj.Object{}, "@0")
	holdObject(t, obj.Object{}, "@0", "@1023", "@7")
	holdError(t, api.ErrForm, 0, "pred p/0")
}

// P9.1: a line of each Op.
func TestEachOp(t *testing.T) {
	for _, c := range []struct {
		line string
		want code.Instr
	}{
		{"fail", code.Instr{Op: 0}}, {"getvar Y1 X2", code.Make(1, 17, 2)}, {"getval X15 X0", code.Make(2, 15, 0)}, {"getcon a X1", code.Make(3, 0, 1)}, {"getstr a/8 X15", code.Make(4, 0, 15)}, {"getlis X7", code.Make(5, 7)},
		{"univar Y15", code.Make(6, 31)}, {"unival X0", code.Make(7)}, {"unicon a", code.Make(8)}, {"univoid 8", code.Make(9, 8)}, {"putvar Y0 X3", code.Make(10, 16, 3)}, {"putval X1 X2", code.Make(11, 1, 2)}, {"putcon a X9", code.Make(12, 0, 9)}, {"putstr a/1 X3", code.Make(13, 0, 3)}, {"putlis X4", code.Make(14, 4)},
		{"allocate 16", code.Make(15, 16)}, {"deallocate", code.Make(16)}, {"call a/0", code.Make(17)}, {"execute a/8", code.Make(18)}, {"proceed", code.Make(19)}, {"try @9", code.Make(20, 1)}, {"retry @9", code.Make(21, 1)}, {"trust", code.Make(22)}, {"neckcut", code.Make(23)}, {"getlevel Y3", code.Make(24, 3)}, {"cut Y15", code.Make(25, 15)},
		{"switch @9 - @0 @9", code.Make(26, 1, noPlace, 0, 1)}, {"switch - - - -", code.Make(26, noPlace, noPlace, noPlace, noPlace)},
	} {
		o, e, n := Program("@0", c.line, "@9", "proceed")
		if e != api.OK || n != -1 || len(o.Code) != 2 || o.Code[0] != c.want {
			t.Errorf("%q: %v, %v, %d; should be %v", c.line, o.Code, e.Word(), n, c.want)
		}
		hold(t, []string{"@0", c.line, "@9", "proceed"})
	}
}

// P9.1: names, Funs and Preds come into their tables where they are met first, in all tables by themselves.
func TestTables(t *testing.T) {
	holdObject(t, obj.Object{
		Names: heap.Names{Atoms: []string{"b", "a", "f"}, Funs: []heap.Fun{{Name: "f", Arity: 2}, {Name: "a", Arity: 2}, {Name: "f", Arity: 1}}},
		Preds: []obj.Pred{{Name: "q", Arity: 0, Entry: elsewhere}, {Name: "p", Arity: 1, Entry: 1}, {Name: "p", Arity: 0, Entry: elsewhere}, {Name: "q", Arity: 1, Entry: 5}, {Name: "a", Arity: 8, Entry: 7}},
		Code: []code.Instr{
			code.Make(code.Call, 0), code.Make(code.GetCon, 0, 0), code.Make(code.GetStr, 0, 1), code.Make(code.UniCon, 1), code.Make(code.Call, 2),
			code.Make(code.GetStr, 1, 0), code.Make(code.PutStr, 0, 3), code.Make(code.PutStr, 2, 4), code.Make(code.PutCon, 2, 1), code.Make(code.UniCon, 0), code.Make(code.Execute, 3),
		},
	}, "call q/0", "pred p/1", "getcon b X0", "getstr f/2 X1", "unicon a", "call p/0", "pred q/1", "getstr a/2 X0", "putstr f/2 X3", "pred a/8", "putstr f/1 X4", "putcon f X1", "unicon b", "execute q/1")
}

// P9.1: a Pred that is used has the Entry of its line, ahead of it or behind; without a line it has None.
func TestEntries(t *testing.T) {
	for _, c := range []struct {
		lines []string
		want  []obj.Pred
	}{
		{[]string{"call p/1"}, []obj.Pred{{Name: "p", Arity: 1, Entry: elsewhere}}},
		{[]string{"call p/1", "pred p/2", "proceed"}, []obj.Pred{{Name: "p", Arity: 1, Entry: elsewhere}, {Name: "p", Arity: 2, Entry: 1}}},
		{[]string{"call p/1", "pred p/1", "proceed"}, []obj.Pred{{Name: "p", Arity: 1, Entry: 1}}},
		{[]string{"pred p/1", "call p/1"}, []obj.Pred{{Name: "p", Arity: 1, Entry: 0}}},
		{[]string{"pred p/1", "@4", "@5", "proceed"}, []obj.Pred{{Name: "p", Arity: 1, Entry: 0}}},
		{[]string{"@4", "pred p/1", "@5", "proceed", "@6", "pred q/0", "proceed"}, []obj.Pred{{Name: "p", Arity: 1, Entry: 0}, {Name: "q", Arity: 0, Entry: 1}}},
	} {
		o, e, _ := Program(c.lines...)
		if e != api.OK || !slices.Equal(o.Preds, c.want) {
			t.Error(c.lines, o.Preds, e.Word())
		}
	}
}

// P9.1: labels become places, whatever their numbers, ahead and behind; several may stand ahead of one instruction, and such that nobody uses anywhere.
func TestLabels(t *testing.T) {
	o, e, n := Program("@1023", "try @5", "@0", "@5", "retry @1023", "@77", "switch @0 @1023 - @5", "@1", "try @1", "@2")
	want := []code.Instr{code.Make(code.Try, 1), code.Make(code.Retry, 0), code.Make(code.Switch, 1, 0, noPlace, 1), code.Make(code.Try, 3)}
	if e != api.OK || n != -1 || !slices.Equal(o.Code, want) {
		t.Error(o.Code, e.Word(), n)
	}
	// A label's number may be that of no place, or of another's.
	o, e, _ = Program("@1", "try @0", "@0", "try @1")
	if e != api.OK || o.Code[0].A[0] != 1 || o.Code[1].A[0] != 0 {
		t.Error(o.Code, e.Word())
	}
	// The last place that there may be, and all labels.
	var l []string
	for n := range 1024 {
		l = append(l, fmt.Sprintf("@%d", 1023-n), fmt.Sprintf("try @%d", (n+1)%1024))
	}
	o, e, n = Program(l...)
	if e != api.OK || n != -1 || len(o.Code) != 1024 {
		t.Fatal(e.Word(), n)
	}
	for n, i := range o.Code {
		if i != code.Make(code.Try, 1023-(n+1)%1024) {
			t.Error(n, i)
		}
	}
}

// P9.1: lines that are none of the document's.
func TestWrongWords(t *testing.T) {
	long := strings.Repeat("a", 32)
	for _, line := range []string{
		"", " ", "  ", "-", "@", "nop", "p/1", "p", "7", "X0", "\n", "\x00", "\xff", "proceed ", " proceed", "Proceed", "proceed 0", "proceed\n", "proceed\x00", "proceed proceed", "fail 1", "# proceed", "proceed # end",
		"pred", "pred ", "pred p", "pred p/", "pred /1", "pred p/9", "pred p/10", "pred p/-1", "pred p/-0", "pred p/+1", "pred p/01", "pred p/00", "pred p/1 ", "pred  p/1", " pred p/1", "pred p /1", "pred p/ 1", "pred p/1/1", "pred p//1", "pred P/1", "pred 1/1", "pred p_q/1", "pred \u00e4/1", "pred p/1 q/1", "pred p/x", "pred p/0x1", "pred p/1_", "pred p/1.0", "pred p/99999999999999999999", "pred p/18446744073709551617", "pred p/\u0661", "pred @1", "predp/1", "Pred p/1", "pred\tp/1", "pred " + long + "a/1", "pred p/1\n",
		"@1024", "@1025", "@10000", "@65535", "@-1", "@-0", "@+1", "@00", "@01", "@007", "@ 1", "@1 ", " @1", "@1 @2", "@x", "@0x1", "@1_0", "@-", "@@1", "1@", "@1.0", "@99999999999999999999", "@18446744073709551616", "@\u0661", "@1\n", "label 1", "@a",
		"getvar X0", "getvar X0 X1 X2", "getvar X0  X1", "getvar  X0 X1", "getvar X16 X1", "getvar X1 Y1", "getvar x0 X1", "getvar 0 1", "getvar X00 X1", "getvar a X1", "getvar X1 X1 ", "getvar Y16 X1",
		"getcon a", "getcon X0 X1", "getcon 0 X1", "getcon a Y1", "getcon A X1", "getcon a/0 X1", "getcon a/1 X1", "getcon @1 X1", "getcon - X1", "getcon  X1", "getcon a X16", "getcon a  X1", "getcon a X1 ", "getcon " + long + "a X1", "getcon \u00e4 X1", "getcon a\x00 X1", "getcon [] X1", "getcon a X1 b",
		"getstr f X1", "getstr f/0 X1", "getstr f/9 X1", "getstr f/01 X1", "getstr f/ X1", "getstr /1 X1", "getstr F/1 X1", "getstr 0 X1", "getstr f/1", "getstr f/1 Y1", "getstr f/1 X1 X2", "getstr f/-1 X1", "getstr f/1/1 X1", "getstr " + long + "a/1 X1", "putstr f/0 X0", "putstr 3 X0", "putstr f/10 X0",
		"getlis", "getlis Y1", "getlis X16", "getlis a", "putlis 1", "univar", "univar a", "univar X16", "unival Y16", "unicon", "unicon X1", "unicon 0", "unicon a/1", "unicon a b",
		"univoid", "univoid 0", "univoid 9", "univoid 01", "univoid a", "univoid X1", "putvar X1", "putval a X1", "putcon X1 a", "putcon 1 X1", "allocate", "allocate 17", "allocate -1", "allocate 00", "allocate Y1", "deallocate 0",
		"call", "call p", "call 0", "call p/9", "call p/01", "call p/", "call /0", "call P/0", "call p/1 ", "call p/1 1", "call @1", "call -", "execute p/10", "execute p/-1", "execute p /1", "execute 3", "execute " + long + "a/0",
		"try", "try 1", "try -", "try @", "try @1024", "try @01", "try @-1", "try @-", "try @1 ", "try @1 @2", "try p/1", "try a", "try @65535", "try @00", "retry -", "retry 0", "retry @1024", "retry X1", "trust @1", "neckcut 1", "getlevel X1", "getlevel 1", "getlevel Y16", "getlevel @1", "cut X0", "cut Y01", "cut -",
		"switch", "switch @1 @1 @1", "switch @1 @1 @1 @1 @1", "switch 1 1 1 1", "switch - - -", "switch - - - - -", "switch @1 @1 @1 @1024", "switch -- - - -", "switch @- - - -", "switch @1 @1 @1 65535", "switch @65535 - - -", "switch @01 - - -", "switch - - - ", "switch - - -  -", "switch - - - -\n", "switch -0 - - -", "switch @1 @1 @1 a", "switch @1 @1 @1 -1",
		strings.Repeat("a", 1<<16), strings.Repeat(" ", 1<<16), "pred " + strings.Repeat("a", 1<<16) + "/1", "pred p/" + strings.Repeat("0", 1<<16), "@" + strings.Repeat("1", 1<<16), "call p/" + strings.Repeat("1", 1<<16), "switch" + strings.Repeat(" -", 1<<16), "getcon " + strings.Repeat("a", 1<<16) + " X1", "proceed" + strings.Repeat(" ", 1<<16),
	} {
		holdError(t, api.ErrWord, 0, line)
		holdError(t, api.ErrWord, 2, "@1", "proceed", line, "nop")
		hold(t, []string{"@1", "proceed", line})
	}
}

// P9.1: names, arities and labels just as they may be.
func TestRightWords(t *testing.T) {
	long := strings.Repeat("a", 31) + "9"
	holdObject(t, obj.Object{
		Names: heap.Names{Atoms: []string{long, "z"}, Funs: []heap.Fun{{Name: long, Arity: 1}, {Name: "z", Arity: 8}}},
		Preds: []obj.Pred{{Name: long, Arity: 0, Entry: 0}, {Name: "z", Arity: 8, Entry: 1}, {Name: "z", Arity: 0, Entry: elsewhere}, {Name: long, Arity: 8, Entry: elsewhere}},
		Code:  []code.Instr{code.Make(code.PutCon, 0, 0), code.Make(code.UniCon, 1), code.Make(code.PutStr, 0, 0), code.Make(code.GetStr, 1, 0), code.Make(code.Call, 2), code.Make(code.Execute, 3), code.Make(code.Try, 0), code.Make(code.Retry, 6)},
	}, "pred "+long+"/0", "@1023", "putcon "+long+" X0", "pred z/8", "unicon z", "putstr "+long+"/1 X0", "getstr z/8 X0", "call z/0", "execute "+long+"/8", "@0", "try @1023", "retry @0")
	// Names may be those of Ops, and of lines.
	holdObject(t, obj.Object{
		Names: heap.Names{Atoms: []string{"pred", "proceed"}, Funs: []heap.Fun{{Name: "call", Arity: 1}}},
		Preds: []obj.Pred{{Name: "pred", Arity: 1, Entry: 0}, {Name: "fail", Arity: 0, Entry: elsewhere}},
		Code:  []code.Instr{code.Make(code.UniCon, 0), code.Make(code.UniCon, 1), code.Make(code.GetStr, 0, 0), code.Make(code.Call, 1)},
	}, "pred pred/1", "unicon pred", "unicon proceed", "getstr call/1 X0", "call fail/0")
}

// P9.1: pred lines and label lines that were there already.
func TestTwice(t *testing.T) {
	holdError(t, api.ErrTwice, 2, "pred p/1", "proceed", "pred p/1")
	holdError(t, api.ErrTwice, 1, "pred p/1", "pred p/1", "proceed")
	holdError(t, api.ErrTwice, 3, "pred p/1", "proceed", "pred p/2", "pred p/1", "proceed")
	holdError(t, api.ErrTwice, 4, "call p/1", "pred p/1", "proceed", "call p/1", "pred p/1", "proceed")
	holdError(t, api.ErrTwice, 1, "@1", "@1")
	holdError(t, api.ErrTwice, 2, "@0", "proceed", "@0", "proceed")
	holdError(t, api.ErrTwice, 3, "@1023", "@1", "proceed", "@1023", "proceed")
	if hold(t, []string{"pred p/1", "proceed", "pred p/2", "proceed", "pred q/1", "proceed", "@1", "@2", "proceed"}) != api.OK {
		t.Error("others are twice")
	}
}

// P9.1: tables of as many as there may be, and the line that brings one more.
func TestFull(t *testing.T) {
	for _, c := range []struct {
		most int
		line func(n int) string
	}{
		{256, func(n int) string { return fmt.Sprintf("getcon a%d X0", n) }},
		{256, func(n int) string { return fmt.Sprintf("unicon a%d", n) }},
		{256, func(n int) string { return fmt.Sprintf("putstr a%d/%d X1", n/8, 1+n%8) }},
		{256, func(n int) string { return fmt.Sprintf("getstr a%d/3 X1", n) }},
		{64, func(n int) string { return fmt.Sprintf("call a%d/%d", n/9, n%9) }},
		{64, func(n int) string { return fmt.Sprintf("execute a%d/0", n) }},
		{1024, func(n int) string { return "proceed" }},
		{1024, func(n int) string { return []string{"unicon a", "getstr f/2 X0", "call p/1", "try @3"}[n%4] }},
	} {
		l := append([]string{"@3"}, numbered(c.most, c.line)...)
		if hold(t, l) != api.OK {
			t.Error(c.most, l[1])
		}
		more := c.line(c.most)
		holdError(t, api.ErrFull, c.most+1, append(slices.Clone(l), more)...)
		holdError(t, api.ErrFull, c.most+2, append(slices.Clone(l), "@4", more, "nop")...)
		if c.most == mostInstrs {
			continue
		}
		// What is there already still is, and an instruction more.
		if hold(t, append(slices.Clone(l), c.line(0), c.line(c.most-1), "proceed")) != api.OK {
			t.Error(c.most, l[1])
		}
	}
}

// P9.1: pred lines bring predicates too.
func TestFullOfPreds(t *testing.T) {
	var l []string
	for n := range 64 {
		l = append(l, fmt.Sprintf("pred a%d/1", n), "proceed")
	}
	if hold(t, l) != api.OK {
		t.Error("64 Preds")
	}
	holdError(t, api.ErrFull, 128, append(slices.Clone(l), "pred a64/1", "proceed")...)
	holdError(t, api.ErrFull, 128, append(slices.Clone(l), "pred a0/2")...)
	holdError(t, api.ErrFull, 128, append(slices.Clone(l), "call a64/1")...)
	holdError(t, api.ErrTwice, 128, append(slices.Clone(l), "pred a63/1")...)
	holdError(t, api.ErrWord, 128, append(slices.Clone(l), "pred a64/9")...)
	used := append(numbered(64, func(n int) string { return fmt.Sprintf("call a%d/1", n) }), "pred a63/1", "proceed")
	if hold(t, used) != api.OK {
		t.Error("a line of one that is used")
	}
	holdError(t, api.ErrFull, 64, slices.Insert(used, 64, "pred b/1")...)
	// As many instructions as there may be: label lines may still come, and pred lines, of which then nothing is behind.
	full := numbered(1024, func(int) string { return "proceed" })
	if hold(t, append(slices.Clone(full), "@0", "@1")) != api.OK {
		t.Error("labels behind all")
	}
	holdError(t, api.ErrForm, 1024, append(slices.Clone(full), "pred p/1")...)
	holdError(t, api.ErrFull, 1025, append(slices.Clone(full), "pred p/1", "proceed")...)
	holdError(t, api.ErrWord, 1024, append(slices.Clone(full), "proceed ")...)
}

// P9.1: labels that are used, of which there is no line, or none ahead of an instruction.
func TestLabelErrors(t *testing.T) {
	holdError(t, api.ErrLabel, 0, "try @0")
	holdError(t, api.ErrLabel, 0, "try @1023")
	holdError(t, api.ErrLabel, 0, "try @4", "@4")
	holdError(t, api.ErrLabel, 0, "try @4", "@4", "@5")
	holdError(t, api.ErrLabel, 1, "@4", "try @5", "proceed")
	holdError(t, api.ErrLabel, 2, "@4", "try @4", "retry @6", "@5", "proceed", "try @7")
	for k := range 4 {
		l := []string{"switch", "@1", "@1", "@1", "@1"}
		l[k+1] = "@2"
		holdError(t, api.ErrLabel, 1, "@1", strings.Join(l, " "), "@2")
		holdError(t, api.ErrLabel, 1, "@1", strings.Join(l, " "), "proceed")
		if hold(t, []string{"@1", strings.Join(l, " "), "@2", "proceed"}) != api.OK {
			t.Error(l)
		}
	}
	// A label's number is no place.
	holdError(t, api.ErrLabel, 1, "@7", "try @0")
	// Without a use it may stand behind all.
	if hold(t, []string{"proceed", "@4"}) != api.OK {
		t.Error("nobody uses it")
	}
}

// P9.1: pred lines without an instruction behind them, or with another pred's line between.
func TestFormErrors(t *testing.T) {
	holdError(t, api.ErrForm, 0, "pred p/1")
	holdError(t, api.ErrForm, 1, "proceed", "pred p/1")
	holdError(t, api.ErrForm, 1, "proceed", "pred p/1", "@1")
	holdError(t, api.ErrForm, 0, "pred p/1", "pred q/1", "proceed")
	holdError(t, api.ErrForm, 0, "pred p/1", "pred p/2", "proceed")
	holdError(t, api.ErrForm, 0, "pred p/1", "@1", "pred q/1", "@2", "proceed")
	holdError(t, api.ErrForm, 2, "pred p/1", "proceed", "pred q/1", "pred r/1", "proceed")
	holdError(t, api.ErrForm, 0, "pred p/1", "pred q/1", "pred r/1", "proceed")
	holdError(t, api.ErrForm, 0, "pred p/1", "pred q/1")
	holdError(t, api.ErrForm, 2, "pred p/1", "proceed", "pred q/1", "pred r/1")
	holdError(t, api.ErrForm, 1, "call q/1", "pred q/1", "pred p/1", "call p/1")
	// Also where the one that stands first was met last.
	holdError(t, api.ErrForm, 2, "call q/1", "call p/1", "pred p/1", "pred q/1", "proceed")
}

// P9.1: of several faults the first line's counts; but what is wrong with a line alone counts ahead of what is wrong with all.
func TestSeveralFaults(t *testing.T) {
	holdError(t, api.ErrWord, 1, "try @4", "nop", "pred p/1")
	holdError(t, api.ErrWord, 2, "pred p/1", "pred q/1", "nop")
	holdError(t, api.ErrTwice, 3, "try @4", "@5", "pred p/1", "@5")
	holdError(t, api.ErrTwice, 1, "@5", "@5", "nop")
	holdError(t, api.ErrWord, 1, "@5", "nop", "@5")
	holdError(t, api.ErrLabel, 0, "try @4", "pred p/1")
	holdError(t, api.ErrForm, 0, "pred p/1", "pred q/1", "try @4")
	holdError(t, api.ErrLabel, 1, "pred p/1", "try @4", "pred q/1")
	holdError(t, api.ErrForm, 1, "proceed", "pred p/1", "@1")
	holdError(t, api.ErrForm, 1, "proceed", "pred p/1", "pred q/1", "try @1", "@1")
	holdError(t, api.ErrLabel, 0, "try @1", "pred p/1", "pred q/1", "@1")
	full := append([]string{"try @4"}, numbered(256, func(n int) string { return fmt.Sprintf("unicon a%d", n) })...)
	holdError(t, api.ErrLabel, 0, full...)
	holdError(t, api.ErrFull, 257, append(slices.Clone(full), "unicon b", "nop")...)
	holdError(t, api.ErrWord, 257, append(slices.Clone(full), "unicon B", "unicon b")...)
	holdError(t, api.ErrWord, 257, append(slices.Clone(full), "getcon b Y1")...)
}

// turnLine makes a line another one, mostly a wrong one.
func turnLine(r *rand.Rand, line string) string {
	const bytes = "apXY019/@- "
	b := []byte(line)
	at := r.Intn(len(b))
	c := bytes[r.Intn(len(bytes))]
	switch r.Intn(4) {
	case 0:
		b[at] = c
	case 1:
		b = slices.Insert(b, at, c)
	case 2:
		b = slices.Delete(b, at, at+1)
	case 3:
		b = append(b, c)
	}
	return string(b)
}

// turn makes lines others, mostly wrong ones.
func turn(r *rand.Rand, lines []string) []string {
	l := slices.Clone(lines)
	for range r.Intn(3) {
		at, other := r.Intn(len(l)), r.Intn(len(l))
		switch r.Intn(7) {
		case 0:
			if l[at] != "" {
				l[at] = turnLine(r, l[at])
			}
		case 1:
			l[at], l[other] = l[other], l[at]
		case 2:
			l = slices.Insert(l, at, l[other])
		case 3:
			l = slices.Insert(l, at, "pred "+someWord(r, 17, 'P', nil))
		case 4:
			l = slices.Insert(l, at, fmt.Sprintf("@%d", r.Intn(1026)))
		case 5:
			l = slices.Insert(l, at, someInstr(r, []int{r.Intn(1024), 1, 2}))
		case 6:
			if len(l) > 1 {
				l = slices.Delete(l, at, at+1)
			}
		}
	}
	return l
}

// P9.1: lines by chance, and such of which something was turned, against the model.
func TestProgramModel(t *testing.T) {
	r := rand.New(rand.NewSource(9))
	had := map[api.Errno]int{}
	for range 15000 {
		l := some(r)
		if e := hold(t, l); e != api.OK {
			t.Fatal(l, e.Word())
		}
		had[hold(t, turn(r, l))]++
		if t.Failed() {
			return
		}
	}
	for e, least := range map[api.Errno]int{api.OK: 1000, api.ErrWord: 500, api.ErrTwice: 200, api.ErrLabel: 200, api.ErrForm: 200} {
		if had[e] < least {
			t.Error(e.Word(), had[e])
		}
	}
}

// P9.1: single lines by chance that are almost right.
func TestLineModel(t *testing.T) {
	r := rand.New(rand.NewSource(91))
	for range 60000 {
		line := someInstr(r, []int{0, 9, 1023})
		switch r.Intn(6) {
		case 0:
			line = "pred " + someWord(r, 17, 'P', nil)
		case 1:
			line = fmt.Sprintf("@%d", r.Intn(1100))
		}
		for range r.Intn(3) {
			if line != "" {
				line = turnLine(r, line)
			}
		}
		hold(t, []string{"@0", "@9", "trust", "@1023", line, "proceed"})
		if t.Failed() {
			return
		}
	}
}

// P9.1: the lines that are handed in aren't changed, their spare room neither, nor kept; answers are new memory.
func TestLinesStay(t *testing.T) {
	row := []string{"@3", "pred p/1", "getcon a X0", "getstr f/2 X1", "try @3", "spare", "spare"}
	was := slices.Clone(row)
	first, _, _ := Program(row[:5]...)
	second, _, _ := Program(row[:5]...)
	if !slices.Equal(row, was) {
		t.Error(row)
	}
	for k := range row {
		row[k] = "other"
	}
	first.Names.Atoms[0], first.Names.Funs[0].Name, first.Preds[0].Name, first.Code[0].Op = "c", "c", "c", 19
	if want, _, _ := Program(was[:5]...); !obj.Same(second, want) || obj.Same(first, want) {
		t.Error(first, second)
	}
}
