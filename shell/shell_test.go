package shell_test

import (
	"slices"
	"strconv"
	"strings"
	"testing"

	"resolvent/shell"
)

// told is what stands between a line and its reply in a row.
const told = " => "

// hold does lines, and holds the replies against those that stand behind them.
func hold(t *testing.T, s *shell.Shell, rows ...string) {
	t.Helper()
	for n, row := range rows {
		line, want, ok := strings.Cut(row, told)
		if !ok {
			t.Fatal(row)
		}
		if got := s.Do(line); got != want {
			t.Errorf("%d: %q: %q, should be %q", n, line, got, want)
		}
	}
}

// begun is a Shell that did lines already; to clause and asm, which are left out, all is ok.
func begun(t *testing.T, lines ...string) *shell.Shell {
	t.Helper()
	s := shell.New()
	for _, line := range lines {
		if got := s.Do(line); got != "ok" {
			t.Fatalf("%q: %q", line, got)
		}
	}
	return s
}

// apart stands between the texts of a row: lines of layer 9, or clauses.
const apart = "; "

// each puts a word and a blank ahead of each text of a row.
func each(word, row string) []string {
	var l []string
	for _, text := range strings.Split(row, apart) {
		l = append(l, word+" "+text)
	}
	return l
}

// asked is a Shell with an object of asm lines that has been asked.
func asked(t *testing.T, code, ask string) *shell.Shell {
	t.Helper()
	return begun(t, append(each("asm", code), "assemble", ask)...)
}

// P15.1: the example of the chapter.
func TestExample(t *testing.T) {
	got := shell.Lines([]string{"clause p(a).", "compile", "ask p/1 9 9 9", "step 9", "read 0"})
	if want := []string{"ok", "ok", "ok", "success", "a"}; !slices.Equal(got, want) {
		t.Error(got)
	}
}

// commands are the table's lines, each with as many words as it has, and its replies of a new Shell.
var commands = []string{
	"clause p. => ok", "asm x => ok", "clear => ok", "compile => ok", "assemble => ok", "check => no object", "size => no object", "ask p/1 2 3 4 => no object",
	"step 5 => no machine", "again => no machine", "read 6 => no machine", "state => no machine",
}

// P15.1: each line of the table, of a new Shell.
func TestNew(t *testing.T) {
	for _, row := range commands {
		hold(t, shell.New(), row)
		hold(t, &shell.Shell{}, row)
	}
}

// full is a Shell to which nothing lacks: clauses, lines, an object, and machines.
func full(t *testing.T) *shell.Shell {
	t.Helper()
	return begun(t, "clause p(a).", "asm pred q/0", "asm proceed", "compile", "ask p/1 9 9 9")
}

// bad are lines that the table hasn't, whatever the Shell has.
func bad() []string {
	l := []string{"", " ", "  ", "    ", "\t", "\n", "what", "ok", "no object", "quit", "help", "?", "0", "p(a).", "pred p/1", "@0", "\x00", "\xff\xfe", "é"}
	for _, row := range commands {
		line, _, _ := strings.Cut(row, told)
		words := strings.Split(line, " ")
		word, rest := words[0], words[1:]
		others := []string{
			strings.ToUpper(word), strings.ToUpper(word[:1]) + word[1:], word[:len(word)-1], word[:1], word + "s", word + ".", word + "0", "\t" + word, word + "\t", word + "\n", "x" + word, word + word,
		}
		for _, other := range others {
			l = append(l, strings.Join(append([]string{other}, rest...), " "), other, other+" 1")
		}
		l = append(l, " "+line, "  "+line, "x "+line)
		if word == "clause" || word == "asm" {
			l = append(l, word, strings.Replace(line, " ", "\t", 1))
			continue
		}
		l = append(l, line+" ", line+"  ", line+" 1", line+" x", line+" "+word, line+" "+line, strings.Replace(line, " ", "  ", 1)+" ")
		if len(rest) > 0 {
			l = append(l, word, word+" ", strings.Join(words[:len(words)-1], " "), strings.Join(words[:len(words)-1], " ")+" ", strings.Replace(line, " ", "  ", 1), strings.Replace(line, " ", "\t", 1))
			l = append(l, strings.Join(slices.Concat(words[:len(words)-1], []string{"", words[len(words)-1]}), " "))
		}
	}
	return l
}

// P15.1: a line that is none of the table's is replied to by what, also ahead of no object and no machine, and nothing comes of it.
func TestWhat(t *testing.T) {
	for _, line := range bad() {
		hold(t, shell.New(), line+told+"what")
		s := full(t)
		hold(t, s, line+told+"what", "state => 0 -1 -1 0 1 0", "check => ok", "size => "+sizeOf(t, pa))
		hold(t, s, "step 9 => success", "compile => ok", "size => "+sizeOf(t, pa), "assemble => ok", "size => "+sizeOf(t, "pred q/0; proceed"))
	}
}

// wrongNumbers aren't numbers as a line has them.
func wrongNumbers() []string {
	return []string{
		"", "00", "01", "007", "000000", "-0", "-1", "-5", "+0", "+5", "100001", "100010", "200000", "999999", "1000000", "99999999999999999999", "9223372036854775807", "9223372036854775808", "18446744073709551616", "18446744073709551617",
		"1.0", "1e3", "0x1", "0b1", "1_000", "x", "a", "1x", "x1", "1,", "1.", "١", "1\t", "\t1", "1\n", "'1'", "one", "1\x00", "-", "+", "/", "1/1",
	}
}

// P15.1: a number is from 0 to 100000, and has one text alone.
func TestNumbers(t *testing.T) {
	for _, n := range []int{0, 1, 9, 10, 11, 99, 100, 4095, 65535, 65536, 65537, 99999, 100000} {
		word := strconv.Itoa(n)
		hold(t, shell.New(), "step "+word+told+"no machine", "read "+word+told+"no machine", "ask p/"+word+" 0 0 0 => no object")
		for k := range 3 {
			rooms := []string{"0", "0", "0"}
			rooms[k] = word
			hold(t, shell.New(), "ask p/0 "+strings.Join(rooms, " ")+told+"no object")
		}
	}
	s := full(t)
	for _, word := range wrongNumbers() {
		hold(t, shell.New(), "step "+word+told+"what", "read "+word+told+"what", "ask p/"+word+" 9 9 9 => what")
		hold(t, s, "step "+word+told+"what", "read "+word+told+"what", "ask p/"+word+" 9 9 9 => what")
		hold(t, s, "ask p/1 "+word+" 9 9 => what", "ask p/1 9 "+word+" 9 => what", "ask p/1 9 9 "+word+told+"what", "state => 0 -1 -1 0 1 0")
	}
}

// P15.1: of a nil Shell Do answers what.
func TestNil(t *testing.T) {
	var s *shell.Shell
	for _, row := range commands {
		line, _, _ := strings.Cut(row, told)
		hold(t, s, line+told+"what")
	}
	for _, line := range bad() {
		hold(t, s, line+told+"what")
	}
}

// P15.1: Lines of no line, and of one.
func TestFewLines(t *testing.T) {
	for _, l := range [][]string{nil, {}} {
		if got := shell.Lines(l); len(got) != 0 {
			t.Error(got)
		}
	}
	for _, row := range commands {
		line, want, _ := strings.Cut(row, told)
		for _, l := range [][]string{{line}, {"", line}, {"x", "y ", line}} {
			got := shell.Lines(l)
			if len(got) != len(l) || got[len(l)-1] != want || len(l) > 1 && got[0] != "what" {
				t.Error(l, got)
			}
		}
	}
}

// P15.2: Lines begins anew each time.
func TestLinesAnew(t *testing.T) {
	for range 3 {
		got := shell.Lines([]string{"check", "state", "clause p(a).", "compile", "check", "ask p/1 9 9 9", "step 1", "state"})
		if want := []string{"no object", "no machine", "ok", "ok", "ok", "ok", "running", "1 -1 -1 0 1 0"}; !slices.Equal(got, want) {
			t.Error(got)
		}
	}
}
