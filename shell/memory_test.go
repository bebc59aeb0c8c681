package shell_test

import (
	"math/rand"
	"slices"
	"strings"
	"testing"
	"unsafe"

	"resolvent/shell"
)

// paper is memory on which lines are written, each over the one ahead of it.
type paper struct{ bytes []byte }

// write answers a line that stands on the paper.
func (p *paper) write(line string) string {
	p.bytes = append(p.bytes[:0], line...)
	return unsafe.String(unsafe.SliceData(p.bytes), len(p.bytes))
}

// wipe writes something else over all of it.
func (p *paper) wipe() {
	for k := range p.bytes[:cap(p.bytes)] {
		p.bytes[:cap(p.bytes)][k] = "zyx(9"[k%5]
	}
}

// P15.2, rule 4: a line is neither changed nor kept, and no reply is a part of it: written over behind Do, it is no matter.
func TestLineIsNotKept(t *testing.T) {
	a := author{r: rand.New(rand.NewSource(94))}
	for range 200 {
		lines := a.script(60)
		p := &paper{bytes: make([]byte, 0, 4000)}
		s := shell.New()
		var replies []string
		for _, line := range lines {
			mine := p.write(line)
			replies = append(replies, s.Do(mine))
			if mine != line {
				t.Fatalf("%q is %q", line, mine)
			}
			p.wipe()
		}
		if want := shell.Lines(lines); !slices.Equal(replies, want) {
			t.Fatal(lines, replies, want)
		}
	}
}

// Rule 4: names of clauses and of asm lines stay what they were, in what is made of them later.
func TestNamesStay(t *testing.T) {
	p := &paper{bytes: make([]byte, 0, 4000)}
	s := shell.New()
	for _, row := range []string{
		"clause p(X0) :- ghi(X0), cut. => ok", "clause ghi([jkl|f(X0)]). => ok", "clause what => word", "compile => ok", "ask p/1 99 99 99 => ok", "step 99 => success", "read 0 => [jkl|f(X4)]",
		"asm pred mno/1 => ok", "asm getstr pqr/1 X0 => ok", "asm unicon stu => ok", "asm proceed => ok", "assemble => ok", "ask mno/1 9 9 9 => ok", "step 9 => success", "read 0 => pqr(stu)",
	} {
		line, want, _ := strings.Cut(row, told)
		if got := s.Do(p.write(line)); got != want {
			t.Errorf("%q: %q, should be %q", line, got, want)
		}
		p.wipe()
	}
}

// P15.2, rule 4: Lines neither changes nor keeps what it is handed, its spare room neither; and its replies are new.
func TestLinesMemory(t *testing.T) {
	lines := []string{"clause p(a).", "clause p(b).", "compile", "ask p/1 9 9 9", "step 9", "read 0", "again", "step 9", "read 0", "state", "size", ""}
	want := shell.Lines(lines)
	mine := append(slices.Clone(lines), "spare", "spare", "spare")[:len(lines)]
	got := shell.Lines(mine)
	if all := mine[:len(mine)+3]; !slices.Equal(mine, lines) || !slices.Equal(all[len(mine):], []string{"spare", "spare", "spare"}) {
		t.Error(mine)
	}
	for k := range mine {
		mine[k] = "clear"
	}
	if !slices.Equal(got, want) {
		t.Error(got, want)
	}
	for k := range got[:cap(got)] {
		got[:cap(got)][k] = "turned"
	}
	if got := shell.Lines(lines); !slices.Equal(got, want) || !slices.Equal(lines[:3], []string{"clause p(a).", "clause p(b).", "compile"}) {
		t.Error(got, want)
	}
}
