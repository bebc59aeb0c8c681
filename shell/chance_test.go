package shell_test

import (
	"math/rand"
	"slices"
	"strconv"
	"strings"
	"testing"

	"resolvent/code"
	"resolvent/shell"
)

// author writes lines by chance.
type author struct{ r *rand.Rand }

func (a author) of(l ...string) string { return l[a.r.Intn(len(l))] }

// number is one that a line may have, or, now and then, one that it may not.
func (a author) number(below int) string {
	if a.r.Intn(40) == 0 {
		return a.of("00", "100000", "100001", "", "-1", "65536", "65537", "x")
	}
	return strconv.Itoa(a.r.Intn(below))
}

func (a author) ask() string {
	name := a.of("p", "q", "r", "app", "add", "q12", "n")
	return "ask " + name + "/" + strconv.Itoa(a.r.Intn(4)) + " " + a.number(a.either(20, 300)) + " " + a.number(a.either(20, 300)) + " " + a.number(a.either(5, 60))
}

func (a author) either(x, y int) int {
	if a.r.Intn(2) == 0 {
		return x
	}
	return y
}

// term is one in words.
func (a author) term(deep int) string {
	switch n := a.r.Intn(5 + deep); {
	case n < 2:
		return "X" + strconv.Itoa(a.r.Intn(4))
	case n < 5:
		return a.of("a", "b", "nil")
	case n < 7:
		return "[" + a.term(deep-1) + "|" + a.term(deep-1) + "]"
	}
	return a.goal("f", 1+a.r.Intn(2), deep-1)
}

func (a author) goal(name string, arity, deep int) string {
	var l []string
	for range arity {
		l = append(l, a.term(deep))
	}
	if arity == 0 {
		return name
	}
	return name + "(" + strings.Join(l, ",") + ")"
}

// clause is one of p, q or r; its goals are of the names behind its own, most.
func (a author) clause() string {
	k := a.r.Intn(3)
	s := a.goal("pqr"[k:k+1], k, 3)
	ahead := " :- "
	for range a.r.Intn(4) {
		goal := a.of("cut", "fail", "q(X0)", "r(X0,X1)", "r(a,X2)", "p")
		if n := k + 1 + a.r.Intn(2); n < 3 {
			goal = a.goal("pqr"[n:n+1], n, 2)
		}
		s += ahead + goal
		ahead = ", "
	}
	return s + "."
}

// turned is lines of code of which one is another by a word, by chance.
func (a author) turned() []string {
	lines := strings.Split(a.of(codes...), apart)
	k := a.r.Intn(len(lines))
	switch a.r.Intn(4) {
	case 0:
		lines = slices.Delete(lines, k, k+1)
	case 1:
		words := strings.Split(lines[k], " ")
		n := a.r.Intn(len(words))
		words[n] = a.of("X0", "X1", "X3", "Y0", "Y1", "a", "@1", "@2", "f/2", "p/1", "q/1", "-", "2", code.Name(a.r.Intn(27)))
		lines[k] = strings.Join(words, " ")
	case 2:
		lines = slices.Insert(lines, k, a.of("getvar X2 X0", "putvar X1 X0", "putcon a X0", "neckcut", "univoid 1", "trust", "fail", "getlis X0", "@4", "unicon a", "getval X0 X0"))
	}
	return each("asm", strings.Join(lines, apart))
}

// source is lines of which an object is made, or isn't.
func (a author) source() []string {
	switch a.r.Intn(4) {
	case 0:
		var l []string
		for range 2 + a.r.Intn(6) {
			l = append(l, "clause "+a.clause())
		}
		return append([]string{"clear"}, append(l, "clause q(X0).", "clause r(X0,X0).", "clause p.", "compile")...)
	case 1:
		return append([]string{"clear"}, append(each("clause", a.of(programs...)), "compile")...)
	}
	return append([]string{"clear"}, append(a.turned(), "assemble")...)
}

// line is one by chance.
func (a author) line() string {
	switch n := a.r.Intn(30); {
	case n < 9:
		return "step " + a.number(a.either(4, 60))
	case n < 14:
		return "again"
	case n < 17:
		return "read " + a.number(4)
	case n < 20:
		return "state"
	case n < 23:
		return a.ask()
	case n < 26:
		return a.of("check", "size", "compile", "assemble", "clear")
	case n < 27:
		return "clause " + a.clause()
	case n < 28:
		return "asm " + a.of("proceed", "fail", "pred p/1", "nop", "", "@1", "call p/1")
	}
	return a.other()
}

// other is a line of which something is turned.
func (a author) other() string {
	line := a.of("clause p(a).", "asm fail", "clear", "compile", "assemble", "check", "size", "ask p/1 99 99 9", "step 5", "again", "read 0", "state")
	k := a.r.Intn(len(line) + 1)
	switch a.r.Intn(3) {
	case 0:
		return line[:k] + a.of(" ", " ", "0", "1", "/", "x", "\t", "\xff") + line[k:]
	case 1:
		return line[:k]
	}
	return line[k:]
}

// script is lines, most of which do something.
func (a author) script(n int) []string {
	var l []string
	for len(l) < n {
		l = append(l, a.source()...)
		for range 1 + a.r.Intn(4) {
			l = append(l, a.ask())
			for range 1 + a.r.Intn(12) {
				l = append(l, a.line())
			}
		}
	}
	return l
}

// P15.1, P15.3, P2, P3, P9: lines by chance, held against the model, behind each of them; and against Lines.
func TestByChance(t *testing.T) {
	a := author{r: rand.New(rand.NewSource(91))}
	seen := map[string]int{}
	for range 1500 {
		lines := a.script(60)
		replies := holdModel(t, shell.New(), &model{}, lines...)
		for _, reply := range replies {
			word, _, _ := strings.Cut(reply, " ")
			seen[word]++
		}
		if got := shell.Lines(lines); !slices.Equal(got, replies) {
			t.Fatal(lines, got, replies)
		}
	}
	for _, word := range []string{"what", "ok", "no", "yes", "running", "success", "failure", "full", "word", "verify", "unknown", "argument", "cycle", "label", "form", "twice", "X0", "a", "0"} {
		if seen[word] < 8 {
			t.Error(word, seen[word])
		}
	}
	if seen["differ"]+seen["stuck"] > 0 {
		t.Error(seen["differ"], seen["stuck"])
	}
}

// P15.2: Shells side by side, line by line in turn, reply as each alone.
func TestSideBySide(t *testing.T) {
	a := author{r: rand.New(rand.NewSource(92))}
	for range 150 {
		scripts := [][]string{a.script(40), a.script(40), a.script(40)}
		scripts = append(scripts, scripts[0])
		shells := []*shell.Shell{shell.New(), shell.New(), {}, shell.New()}
		replies := make([][]string, len(shells))
		for n := range len(scripts[0]) + len(scripts[1]) + len(scripts[2]) {
			for k, s := range shells {
				if n < len(scripts[k]) {
					replies[k] = append(replies[k], s.Do(scripts[k][n]))
				}
			}
		}
		for k := range shells {
			if want := shell.Lines(scripts[k]); !slices.Equal(replies[k], want) {
				t.Fatal(scripts[k], replies[k], want)
			}
		}
	}
}

// P15.2: what a Shell replies hangs on none of what it replied to with what, on no check, size, read or state, and on no object or machines that came of nothing.
func TestLinesThatDoNothing(t *testing.T) {
	a := author{r: rand.New(rand.NewSource(93))}
	still := []string{"check", "size", "read 0", "read 1", "state", "step 0", "", "what", "compile 1", "clause p", "ask p 9 9 9", "ask nobody/0 9 9 9", "ask p/1 99999 9 9", "step 00"}
	for range 300 {
		lines := a.script(50)
		s := shell.New()
		var replies []string
		for _, line := range lines {
			for range a.r.Intn(4) {
				s.Do(a.of(still...))
			}
			replies = append(replies, s.Do(line))
		}
		if want := shell.Lines(lines); !slices.Equal(replies, want) {
			t.Fatal(lines, replies, want)
		}
	}
}
