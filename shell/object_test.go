package shell_test

import (
	"fmt"
	"hash/crc32"
	"slices"
	"strconv"
	"strings"
	"testing"

	"resolvent/api"
	"resolvent/asm"
	"resolvent/comp"
	"resolvent/crc"
	"resolvent/obj"
	"resolvent/shell"
)

// assembled is the object of asm lines.
func assembled(t *testing.T, code string) obj.Object {
	t.Helper()
	o, e, at := asm.Program(strings.Split(code, apart)...)
	if e != api.OK {
		t.Fatal(code, e.Word(), at)
	}
	return o
}

// bytesOf are those of the object of asm lines.
func bytesOf(t *testing.T, code string) []byte {
	t.Helper()
	b, e := obj.Encode(assembled(t, code))
	if e != api.OK {
		t.Fatal(code, e.Word())
	}
	return b
}

// sizeOf is what size tells of the object of asm lines.
func sizeOf(t *testing.T, code string) string {
	t.Helper()
	b := bytesOf(t, code)
	return strconv.Itoa(len(b)) + " " + strconv.FormatUint(uint64(crc.Sum(b)), 10)
}

// pa is the code of p(a)., and emptySize what size tells of the empty object.
const (
	pa        = "pred p/1; getcon a X0; proceed"
	emptySize = "17 3326295720"
)

// P15.1: a text that is a clause comes behind the others; of one that isn't, word, and nothing comes.
func TestClause(t *testing.T) {
	for _, text := range []string{
		"", " ", "p", "p.", "p(a)", ".", " p(a).", "p(a). ", "p(a).  ", "p (a).", "p(a) .", "p(X00).", "P(a).", "X0.", "[a|b].", "cut.", "fail.", "cut :- p(a).", "p :-", "p :- .", "p:-q.", "p :-q.", "p :-  q.", "p :- q,r.", "p :- q , r.", "p :- X0.", "p(a). p(b).", "p :- q :- r.", "clause p(a).", "p(a,).", "p().", "\xff.", "p(é).",
		"p :- p, p, p, p, p, p, p, p, p.", "p(X0,X1,X2,X3,X4,X5,X6,X7) :- q(X8,X9,X10,X11,X12).", "p(X1000).", strings.Repeat("p", 33) + ".", "p(a,b,c,d,e,f,g,h,i).", strings.Repeat("(", 99999),
	} {
		_, e := comp.Parse(text)
		s := begun(t, "clause p(a).")
		hold(t, s, "clause "+text+told+e.Word(), "clause p(b). => ok", "compile => ok")
		want := "pred p/1; try @0; getcon a X0; proceed; @0; trust; getcon b X0; proceed"
		if e == api.OK {
			want = "pred p/1; try @0; getcon a X0; proceed; @0; trust; getcon b X0; proceed; pred p/0; proceed"
		} else if e != api.ErrWord {
			t.Error(text, e.Word())
		}
		hold(t, s, "size => "+sizeOf(t, want))
	}
	hold(t, shell.New(), "clause => what", "clause  => word", "clause p. => ok")
}

// P15.1: clauses come in the order of their lines, however many words they have.
func TestClauses(t *testing.T) {
	s := shell.New()
	var l []comp.Clause
	for _, text := range []string{"p(X0,f(X1)) :- q(X0), r, cut, q(X1).", "q(a).", "r :- fail.", "q([b|X7]) :- r.", "p(X3,X3).", "q(a).", "r."} {
		hold(t, s, "clause "+text+told+"ok")
		c, _ := comp.Parse(text)
		l = append(l, c)
		lines, e, at := comp.Lines(l...)
		if e != api.OK {
			hold(t, s, fmt.Sprintf("compile => %s %d", e.Word(), at))
			continue
		}
		hold(t, s, "compile => ok", "size => "+sizeOf(t, strings.Join(lines, apart)), "check => ok")
	}
}

// P15.1: asm takes whatever line; which can't be is told by assemble.
func TestAsm(t *testing.T) {
	for _, text := range []string{"", " ", "  ", "proceed ", " proceed", "nop", "pred", "pred ", "pred p", "pred p/9", "@", "@1024", "@01", "getcon a  X0", "call p/1 ", "clear", "\x00", "\xff", "é", "proceed proceed", strings.Repeat("x ", 9999)} {
		s := begun(t, "asm pred p/0", "asm proceed")
		hold(t, s, "asm "+text+told+"ok", "assemble => word 2", "asm proceed => ok", "assemble => word 2", "check => no object")
		hold(t, s, "clear => ok", "asm "+text+told+"ok", "asm "+text+told+"ok", "assemble => word 0")
	}
	hold(t, shell.New(), "asm => what", "assemble => ok", "asm  => ok", "assemble => word 0")
	s := begun(t, each("asm", "pred p/2; try @7; getstr f/2 X0; univar X3; unicon abc; execute q/1; @7; trust; switch - - @1 -; @1; proceed; pred q/1; proceed")...)
	hold(t, s, "assemble => ok", "size => "+sizeOf(t, "pred p/2; try @7; getstr f/2 X0; univar X3; unicon abc; execute q/1; @7; trust; switch - - @1 -; @1; proceed; pred q/1; proceed"), "check => ok")
}

// P15.1: clauses and lines are two rows; each makes its own object, and the last one that was made is the object.
func TestTwoRows(t *testing.T) {
	s := begun(t, "clause p(a).", "asm pred q/0", "asm proceed")
	hold(t, s, "compile => ok", "size => "+sizeOf(t, pa), "assemble => ok", "size => "+sizeOf(t, "pred q/0; proceed"), "compile => ok", "size => "+sizeOf(t, pa))
	hold(t, s, "clause x => word", "asm x => ok", "compile => ok", "assemble => word 2", "size => "+sizeOf(t, pa))
}

// P15.1: behind clear there are no clauses and no lines; the object and the machines stay.
func TestClear(t *testing.T) {
	s := begun(t, "clause p(a).", "clause p(b).", "asm pred q/0", "asm nop", "compile", "ask p/1 9 9 9")
	was := s.Do("size")
	hold(t, s, "step 2 => running", "clear => ok", "state => 2 -1 -1 1 1 1", "size => "+was, "check => ok", "step 9 => success", "read 0 => a", "again => yes", "step 9 => success", "read 0 => b")
	hold(t, s, "ask p/1 9 9 9 => ok", "state => 0 -1 -1 0 1 0")
	hold(t, s, "compile => ok", "size => "+emptySize, "asm proceed => ok", "assemble => ok", "size => "+sizeOf(t, "proceed"), "clear => ok", "assemble => ok", "size => "+emptySize)
	hold(t, s, "state => 0 -1 -1 0 1 0", "clause p(c). => ok", "compile => ok", "size => "+sizeOf(t, "pred p/1; getcon c X0; proceed"))
	hold(t, shell.New(), "clear => ok", "clear => ok", "compile => ok", "check => ok")
}

// P15.1: of no clause, and of no line, comes the empty object.
func TestEmptyObject(t *testing.T) {
	for _, word := range []string{"compile", "assemble"} {
		hold(t, shell.New(), "check => no object", "size => no object", "ask p/0 0 0 0 => no object", word+" => ok", "check => ok", "size => "+emptySize, "ask p/0 0 0 0 => unknown", "ask / 0 0 0 => what", "ask /0 0 0 0 => unknown", "state => no machine")
		hold(t, full(t), "clear => ok", word+" => ok", "size => "+emptySize, "ask p/1 9 9 9 => unknown", "state => 0 -1 -1 0 1 0")
	}
}

// repeated are so many of a line.
func repeated(line string, n int) []string { return slices.Repeat([]string{line}, n) }

// numbered are lines with the letters of their number, from 0 on, for #.
func numbered(line string, n int) []string {
	var l []string
	for k := range n {
		l = append(l, strings.ReplaceAll(line, "#", "n"+strconv.Itoa(k)))
	}
	return l
}

// P15.1: each error of comp.Program that clauses of lines may have, and its place.
func TestCompileErrors(t *testing.T) {
	deep := strings.Repeat("f(", 10) + "a" + strings.Repeat(")", 10)
	for _, c := range []struct {
		lines []string
		want  string
	}{
		{[]string{"clause p(" + deep + ")."}, "full 0"},
		{[]string{"clause p(a).", "clause q :- r.", "clause p(X0) :- q, p(" + deep + ")."}, "full 2"},
		{[]string{"clause p :- q."}, "unknown 0"},
		{[]string{"clause p(a).", "clause p(b) :- p(a).", "clause x", "clause p(b) :- p(a), p(a,a)."}, "unknown 2"},
		{[]string{"clause p(a).", "clause q.", "clause p(b) :- p.", "clause q :- r."}, "unknown 2"},
		{repeated("clause p(a).", 1001), "full -1"},
		{repeated("clause p(a).", 400), "full -1"},
		{numbered("clause #.", 65), "full -1"},
		{numbered("clause p(#,a#,b#,c#,d#).", 60), "full -1"},
	} {
		var l []comp.Clause
		s := shell.New()
		for _, line := range c.lines {
			s.Do(line)
			if x, e := comp.Parse(strings.TrimPrefix(line, "clause ")); e == api.OK {
				l = append(l, x)
			}
		}
		if _, e, at := comp.Program(l...); fmt.Sprint(e.Word(), " ", at) != c.want {
			t.Fatal(c.lines[0], e.Word(), at)
		}
		hold(t, s, "compile => "+c.want, "check => no object", "assemble => ok", "compile => "+c.want, "size => "+emptySize, "check => ok")
		hold(t, s, "asm pred p/1 => ok", "asm getcon a X0 => ok", "asm proceed => ok", "assemble => ok", "ask p/1 9 9 9 => ok", "step 1 => running")
		hold(t, s, "compile => "+c.want, "size => "+sizeOf(t, pa), "state => 1 -1 -1 0 1 0", "step 9 => success", "ask p/1 9 9 9 => ok")
	}
}

// P15.1: each error of asm.Program, and its place.
func TestAssembleErrors(t *testing.T) {
	for _, c := range []struct {
		lines []string
		want  string
	}{
		{[]string{"nop"}, "word 0"},
		{[]string{"pred p/0", "proceed", ""}, "word 2"},
		{[]string{"pred p/0", "proceed", "pred p/1", "proceed", "pred p/0", "nop"}, "twice 4"},
		{[]string{"@3", "proceed", "@3"}, "twice 2"},
		{[]string{"pred p/0", "try @1", "proceed"}, "label 1"},
		{[]string{"pred p/0", "proceed", "try @1", "@1"}, "label 2"},
		{[]string{"pred p/0"}, "form 0"},
		{[]string{"proceed", "pred p/0", "pred q/0", "proceed"}, "form 1"},
		{numbered("putcon # X0", 257), "full 256"},
		{numbered("putstr #/1 X0", 257), "full 256"},
		{numbered("call #/0", 65), "full 64"},
		{repeated("proceed", 1025), "full 1024"},
	} {
		if _, e, at := asm.Program(c.lines...); fmt.Sprint(e.Word(), " ", at) != c.want {
			t.Fatal(c.lines[0], e.Word(), at)
		}
		s := begun(t, "clause p(a).")
		for _, line := range c.lines {
			hold(t, s, "asm "+line+told+"ok")
		}
		hold(t, s, "assemble => "+c.want, "check => no object", "compile => ok", "ask p/1 9 9 9 => ok", "step 1 => running")
		hold(t, s, "assemble => "+c.want, "size => "+sizeOf(t, pa), "state => 1 -1 -1 0 1 0", "step 9 => success", "ask p/1 9 9 9 => ok")
		hold(t, s, "clear => ok", "assemble => ok", "size => "+emptySize)
	}
}

// P15.1: check tells what verify.Check has wrong, and the place of what can't be trusted.
func TestCheck(t *testing.T) {
	for _, c := range []struct{ code, want string }{
		{pa, "ok"},
		{"pred p/1; getvar X3 X0; proceed", "ok"},
		{"pred p/1; getval X3 X0; proceed", "verify 0"},
		{"pred p/1; getcon a X0; getcon a X1; proceed", "verify 1"},
		{"pred p/0; proceed; fail", "verify 1"},
		{"pred p/0; proceed; pred q/0; deallocate; proceed", "verify 1"},
		{"proceed", "verify 0"},
		{"pred p/0; execute q/0", "unknown"},
		{"pred p/1; getval X3 X0; execute q/0", "unknown"},
	} {
		s := begun(t, append(each("asm", c.code), "assemble")...)
		hold(t, s, "check => "+c.want, "check => "+c.want, "state => no machine", "size => "+sizeOf(t, c.code))
		word, _, _ := strings.Cut(c.want, " ")
		if word == "ok" {
			word = "unknown"
		}
		// An error of the object comes ahead of a predicate that isn't there, and of rooms.
		hold(t, s, "ask x/3 9 9 9 => "+word, "ask x/3 100000 9 9 => "+word, "state => no machine")
	}
}

// P15.1: size tells how many bytes there are, and their sum, in decimal digits.
func TestSize(t *testing.T) {
	for _, code := range []string{
		pa, "proceed", "pred p/0; proceed", "pred p/1; getval X3 X0; proceed", "pred p/8; execute q/0", "fail",
		strings.Join(repeated("proceed", 1024), apart), strings.Join(numbered("putcon # X0", 256), apart), "pred p/1; switch @0 - - @0; @0; proceed",
	} {
		b := bytesOf(t, code)
		s := begun(t, append(each("asm", code), "assemble")...)
		hold(t, s, fmt.Sprintf("size => %d %d", len(b), crc32.ChecksumIEEE(b)), "size => "+sizeOf(t, code))
	}
}
