package code

import (
	"fmt"
	"math"
	"math/rand"
	"regexp"
	"slices"
	"strconv"
	"strings"
	"testing"

	"resolvent/api"
)

// wordOf is an operand's text by the document.
func wordOf(kind, n int) string {
	switch kind {
	case isReg:
		if n < 16 {
			return fmt.Sprintf("X%d", n)
		}
		return fmt.Sprintf("Y%d", n-16)
	case isX:
		return fmt.Sprintf("X%d", n)
	case isY:
		return fmt.Sprintf("Y%d", n)
	case isLabel:
		if n == noPlace {
			return "-"
		}
	}
	return fmt.Sprintf("%d", n)
}

// textOf is the text of an instruction that may be, by the document.
func textOf(i Instr) string {
	words := []string{rows[i.Op].name}
	for k, kind := range rows[i.Op].operands {
		words = append(words, wordOf(kind, i.A[k]))
	}
	return strings.Join(words, " ")
}

var switchText = regexp.MustCompile(`^switch( (-|0|[1-9][0-9]{0,2}|10[01][0-9]|102[0-3])){4}\z`)

// oracle tells whose a text is: by all texts there are, and of switches, which are too many for that, by a pattern.
type oracle map[string]Instr

func newOracle() oracle {
	o := oracle{}
	each(func(i Instr) {
		if i.Op != opWhere {
			o[textOf(i)] = i
		}
	})
	return o
}

func (o oracle) whose(s string) (Instr, bool) {
	if !switchText.MatchString(s) {
		i, ok := o[s]
		return i, ok
	}
	i := Instr{Op: opWhere}
	for k, w := range strings.Split(s, " ")[1:] {
		i.A[k] = noPlace
		if w != "-" {
			i.A[k], _ = strconv.Atoi(w)
		}
	}
	return i, true
}

// check holds Parse of a text against the oracle.
func (o oracle) check(t *testing.T, s string) {
	t.Helper()
	want, ok := o.whose(s)
	wantError := api.ErrWord
	if ok {
		wantError = api.OK
	}
	if i, e := Parse(s); i != want || e != wantError {
		t.Errorf("%.60q: %v, %v; should be %v, %v", s, i, e, want, wantError)
	}
}

// P6.1: Text of all instructions that may be is the document's, and no two have the same.
func TestTexts(t *testing.T) {
	whose := map[string]Instr{}
	each(func(i Instr) {
		s := Text(i)
		if s != textOf(i) {
			t.Errorf("%v: %q", i, s)
		}
		if other, had := whose[s]; had && other != i {
			t.Errorf("%q: %v, %v", s, i, other)
		}
		whose[s] = i
	})
}

// P6.1: texts that are written out here.
func TestTextsWritten(t *testing.T) {
	for _, c := range []struct {
		i    Instr
		text string
	}{
		{Make(0), "fail"}, {Make(1, 0, 0), "getvar X0 X0"}, {Make(1, 15, 15), "getvar X15 X15"}, {Make(2, 16, 0), "getval Y0 X0"}, {Make(2, 31, 15), "getval Y15 X15"},
		{Make(3, 0, 1), "getcon 0 X1"}, {Make(3, 255, 1), "getcon 255 X1"}, {Make(4, 255, 0), "getstr 255 X0"}, {Make(5, 4), "getlis X4"},
		{Make(6, 31), "univar Y15"}, {Make(7, 15), "unival X15"}, {Make(8, 255), "unicon 255"}, {Make(9, 1), "univoid 1"}, {Make(9, 8), "univoid 8"},
		{Make(10, 16, 3), "putvar Y0 X3"}, {Make(11, 7, 3), "putval X7 X3"}, {Make(12, 9, 3), "putcon 9 X3"}, {Make(13, 10, 11), "putstr 10 X11"}, {Make(14, 0), "putlis X0"},
		{Make(15, 0), "allocate 0"}, {Make(15, 16), "allocate 16"}, {Make(16), "deallocate"}, {Make(17, 63), "call 63"}, {Make(18, 0), "execute 0"}, {Make(19), "proceed"},
		{Make(20, 1023), "try 1023"}, {Make(21, 0), "retry 0"}, {Make(22), "trust"}, {Make(23), "neckcut"}, {Make(24, 15), "getlevel Y15"}, {Make(25, 0), "cut Y0"},
		{Make(26, 1, noPlace, 2, noPlace), "switch 1 - 2 -"}, {Make(26, 1023, 1022, 0, 1000), "switch 1023 1022 0 1000"}, {Make(26, noPlace, 0, noPlace, 10), "switch - 0 - 10"},
	} {
		i, e := Parse(c.text)
		if Text(c.i) != c.text || i != c.i || e != api.OK {
			t.Errorf("%q: %q, %v, %v", c.text, Text(c.i), i, e)
		}
	}
}

// P6.2: Parse takes each Text back to its instruction.
func TestTextsComeBack(t *testing.T) {
	each(func(i Instr) {
		s := Text(i)
		if got, e := Parse(s); got != i || e != api.OK || Text(got) != s || !Right(got) {
			t.Errorf("%q: %v, %v; should be %v", s, got, e, i)
		}
	})
}

// P6.1: texts that are almost an instruction's.
func TestParseWrong(t *testing.T) {
	for _, s := range []string{
		"", " ", "  ", "-", "nop", "Fail", "FAIL", "fail ", " fail", "fail  ", "fail 0", "fail fail", "fail\n", "fail\t", "fail\x00", "fai", "failed", "26", "none",
		"getvar", "getvar ", "getvar X1", "getvar X1 ", "getvar  X1", "getvar X1  X2", " getvar X1 X2", "getvar X1 X2 ", "getvar X1 X2 X3", "getvar X1\tX2", "getvar\tX1 X2", "getvar X1,X2", "getvarX1 X2", "getvar X1 X2\n", "getvar\u00a0X1 X2",
		"getvar X16 X2", "getvar Y16 X2", "getvar X17 X2", "getvar X31 X2", "getvar X-1 X2", "getvar Y-1 X2", "getvar Y-16 X2", "getvar X01 X2", "getvar Y00 X2", "getvar X+1 X2", "getvar x1 X2", "getvar y1 X2", "getvar 1 X2", "getvar 17 2", "getvar X X2", "getvar Y X2", "getvar XY1 X2", "getvar YX1 X2", "getvar XX1 X2", "getvar YY1 X2", "getvar Z1 X2", "getvar - X2", "getvar X1 -", "getvar X0x1 X2", "getvar X1_0 X2", "getvar X1.0 X2", "getvar X1e0 X2", "getvar X\u0661 X2",
		"getvar Y1 Y2", "getvar X1 Y2", "getvar X1 X16", "getvar X1 2", "getvar X1 X02",
		"getcon X1", "getcon 256 X1", "getcon -1 X1", "getcon 00 X1", "getcon 01 X1", "getcon +1 X1", "getcon -0 X1", "getcon a X1", "getcon X1 X1", "getcon Y1 X1", "getcon - X1", "getcon 1 X16", "getcon 1 Y1", "getcon 0x1 X1", "getcon 1_0 X1", "getcon 99999999999999999999 X1", "getcon 18446744073709551616 X1", "getcon 4294967296 X1",
		"getstr 256 X7", "getstr f/1 X7", "putstr 256 X7", "putstr -1 X7", "getlis", "getlis Y1", "getlis X16", "getlis 1", "putlis Y0", "putlis X1 X2",
		"univar", "univar X16", "univar Y16", "univar 0", "unival 16", "unicon 256", "unicon -1", "unicon X1", "unicon", "univoid", "univoid 0", "univoid 9", "univoid -1", "univoid 01", "univoid X1",
		"putvar Y1 Y1", "putval Y1 16", "putcon 256 X0", "putcon 0 Y0", "allocate", "allocate 17", "allocate -1", "allocate Y1", "allocate 016", "deallocate 0", "deallocate ", "deallocate1",
		"call", "call 64", "call -1", "call p/1", "call 063", "execute 64", "execute -", "execute X1", "proceed 0", "trust 1", "neckcut 0",
		"try", "try -", "try 1024", "try 65535", "try 65534", "try @1", "try -1", "try 01", "try X1", "try 1 2", "retry -", "retry 1024", "retry 65535", "retry ",
		"getlevel", "getlevel X1", "getlevel Y16", "getlevel 1", "getlevel Y01", "getlevel -", "cut X1", "cut Y16", "cut Y-1", "cut 1", "cut", "cut YY1", "cut XY1",
		"switch", "switch 1 2 3", "switch 1 2 3 4 5", "switch 1 2 3 4 ", "switch 1 2 3  4", "switch 1 2  3", "switch 1 2 3 4 5 6", "switch 65535 1 2 3", "switch 1 65535 2 3", "switch 1 2 3 65535", "switch 1024 1 2 3", "switch 1 2 3 1024", "switch 1 2 3 65534", "switch 1 2 3 65536", "switch -- 1 2 3", "switch -1 1 2 3", "switch 1 2 3 -0", "switch @1 2 3 4", "switch 1 2 3 04", "switch X1 2 3 4", "switch 1 2 3 -\n", "switch----", "switch - - - - -", "switch - - -",
	} {
		if i, e := Parse(s); i != (Instr{}) || e != api.ErrWord {
			t.Errorf("%q: %v, %v", s, i, e)
		}
	}
}

// P6.1: each operand of each Op is read of its own kind's words alone, just within its limits.
func TestParseOperands(t *testing.T) {
	o := newOracle()
	for op, r := range rows {
		words := strings.Split(textOf(least(op)), " ")
		for k := range r.operands {
			for _, ahead := range []string{"", "X", "Y", "-", "@", "x", "+", "0"} {
				for _, n := range []string{"", "0", "1", "7", "8", "9", "15", "16", "17", "31", "32", "63", "64", "255", "256", "1023", "1024", "65534", "65535", "65536", strconv.Itoa(math.MaxInt), strconv.Itoa(math.MaxInt - 15), strconv.Itoa(math.MinInt), "99999999999999999999"} {
					l := slices.Clone(words)
					l[k+1] = ahead + n
					o.check(t, strings.Join(l, " "))
				}
			}
		}
	}
}

// P6.1, P6.2: texts of which bytes, or words, are others than an instruction's.
func TestParseAlmost(t *testing.T) {
	r := rand.New(rand.NewSource(62))
	o := newOracle()
	const bytes = "abcdefgilmnoprstuvwxyXY0123456789 --  @+\t\n\x00\xff"
	for op := range rows {
		for range 1500 {
			s := []byte(textOf(some(r, op)))
			for range 1 + r.Intn(2) {
				at := r.Intn(len(s))
				c := bytes[r.Intn(len(bytes))]
				switch r.Intn(4) {
				case 0:
					s[at] = c
				case 1:
					s = slices.Insert(s, at, c)
				case 2:
					s = slices.Delete(s, at, at+1)
				case 3:
					s = append(s, c)
				}
			}
			o.check(t, string(s))
			words := strings.Split(textOf(some(r, op)), " ")
			others := strings.Split(textOf(some(r, r.Intn(opCount))), " ")
			o.check(t, strings.Join(slices.Concat(words[:r.Intn(len(words)+1)], others[r.Intn(len(others)):]), " "))
			o.check(t, strings.Join(words, " "))
		}
	}
}

// P1, P6.1: of texts without measure Parse ends.
func TestParseLong(t *testing.T) {
	for _, s := range []string{
		strings.Repeat(" ", 1<<20), strings.Repeat("fail", 1<<18), "fail" + strings.Repeat(" ", 1<<20), "try " + strings.Repeat("0", 1<<20), "try " + strings.Repeat("1", 1<<20), "try " + strings.Repeat("0", 1<<20) + "1", "cut " + strings.Repeat("Y", 1<<20) + "1", "switch" + strings.Repeat(" 1", 1<<18), strings.Repeat("\x00", 1<<20),
	} {
		if i, e := Parse(s); i != (Instr{}) || e != api.ErrWord {
			t.Errorf("%.40q: %v, %v", s, i, e)
		}
	}
}
