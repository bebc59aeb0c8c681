package cell

import (
	"math"
	"strconv"
	"testing"
)

// The numbers of the limits stand here as the document has them, so that a change of one shows.
const greatest = 1<<40 - 1

// edgeNumbers are numbers that may be, at both ends and at single bits.
func edgeNumbers() []int {
	l := []int{0, 1, 2, 3, 4, 5, 7, 8, 9, greatest - 1, greatest}
	for b := 3; b < 40; b++ {
		l = append(l, 1<<b-1, 1<<b, 1<<b+1)
	}
	return l
}

// P1.1: the kinds' numbers are those of the document.
func TestKinds(t *testing.T) {
	if Ref != 0 || Str != 1 || Con != 2 || Lis != 3 || Fun != 4 {
		t.Error(Ref, Str, Con, Lis, Fun)
	}
}

// P1.1: the document's example.
func TestExample(t *testing.T) {
	if c := Make(Con, 5); c != 42 || c.Text() != "con 5" {
		t.Error(uint64(c), c.Text())
	}
}

// P1.1: Make answers the number times 8, and the kind.
func TestMakeBits(t *testing.T) {
	for kind := range 5 {
		for _, n := range edgeNumbers() {
			if c := Make(kind, n); uint64(c) != uint64(n)*8+uint64(kind) {
				t.Error(kind, n, uint64(c))
			}
		}
	}
}

// P1.1: Make refuses all other kinds and numbers, those too that wrap round to ones that may be.
func TestMakeWrong(t *testing.T) {
	kinds := []int{-1, -2, -4, -8, 5, 6, 7, 8, 9, 1 << 32, 1<<32 + 2, 1 << 62, math.MinInt, math.MinInt + 1, math.MaxInt}
	numbers := []int{-1, -2, -8, greatest + 1, greatest + 2, 1 << 41, 1 << 60, 1 << 61, 1<<61 + 5, 1 << 62, math.MinInt, math.MaxInt}
	check := func(kind, n int) {
		if c := Make(kind, n); uint64(c) != math.MaxUint64 {
			t.Error(kind, n, uint64(c))
		}
	}
	for _, kind := range kinds {
		for _, n := range edgeNumbers() {
			check(kind, n)
		}
		for _, n := range numbers {
			check(kind, n)
		}
	}
	for kind := range 5 {
		for _, n := range numbers {
			check(kind, n)
		}
	}
}

// P1.1: Right holds of what Make makes, and of nothing else.
func TestRight(t *testing.T) {
	for low := range uint64(8) {
		for _, high := range []uint64{0, 1, 2, 1 << 39, greatest} {
			if c := Cell(high*8 + low); c.Right() != (low <= 4) {
				t.Error(high, low)
			}
		}
		for _, high := range []uint64{greatest + 1, greatest + 2, 1<<41 - 1, 1 << 41, 1 << 59, 1<<60 + 3, 1<<61 - 1} {
			if c := Cell(high*8 + low); c.Right() {
				t.Error(high, low)
			}
		}
	}
	for bit := 43; bit < 64; bit++ {
		if Cell(1<<bit | 42).Right() {
			t.Error(bit)
		}
	}
}

// P1.1: Kind, Number and Text of cells that aren't Right.
func TestWrongCells(t *testing.T) {
	for _, c := range []Cell{5, 6, 7, 13, 1 << 43, 1<<43 | Con, 1 << 63, 1<<63 | 42, math.MaxUint64, math.MaxUint64 - 7, Make(-1, 0), Make(0, -1)} {
		if c.Kind() != -1 || c.Number() != -1 || c.Text() != "none" {
			t.Error(uint64(c), c.Kind(), c.Number(), c.Text())
		}
	}
}

// P1.1: Text is the kind's word, a blank, and the number in decimal digits.
func TestText(t *testing.T) {
	for kind, word := range []string{"ref", "str", "con", "lis", "fun"} {
		for _, n := range edgeNumbers() {
			if s := Make(kind, n).Text(); s != word+" "+strconv.Itoa(n) {
				t.Error(kind, n, s)
			}
		}
	}
	for c, want := range map[Cell]string{0: "ref 0", 9: "str 1", 82: "con 10", 803: "lis 100", 1<<43 - 4: "fun 1099511627775"} {
		if s := c.Text(); s != want {
			t.Error(uint64(c), s)
		}
	}
}

// P1.2: what a cell is made of comes back.
func TestMakeUndone(t *testing.T) {
	for kind := range 5 {
		for _, n := range edgeNumbers() {
			if c := Make(kind, n); !c.Right() || c.Kind() != kind || c.Number() != n {
				t.Error(kind, n, c.Right(), c.Kind(), c.Number())
			}
		}
	}
}

// P1.2: a cell that is Right comes back of its kind and number; of another one the bits of none.
func TestCellUndone(t *testing.T) {
	x := uint64(1)
	right := 0
	for i := range 20000 {
		x = x*6364136223846793005 + 1442695040888963407
		c := Cell(x >> (i % 64))
		back := Make(c.Kind(), c.Number())
		if c.Right() {
			right++
		}
		if c.Right() != (back == c) || !c.Right() && uint64(back) != math.MaxUint64 {
			t.Error(uint64(c), uint64(back))
		}
	}
	if right < 1000 {
		t.Error("too few cells are Right:", right)
	}
}

// P1.2: no two kinds and numbers come to the same cell.
func TestNoTwoAlike(t *testing.T) {
	type pair struct{ kind, n int }
	seen := map[Cell]pair{}
	for kind := range 5 {
		for _, n := range edgeNumbers() {
			c, p := Make(kind, n), pair{kind, n}
			if q, ok := seen[c]; ok && q != p {
				t.Error(p, q)
			}
			seen[c] = p
		}
	}
}
