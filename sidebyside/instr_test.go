package sidebyside

import (
	"strconv"
	"strings"
	"testing"
)

// P12.1, P13.1, P13.2: each instruction each way that it may go: how all is behind so many steps (another answer is asked for by one, too). What is as at the beginning isn't told: cp and e -1, b and b0 0, not write and s 0.
func TestInstructions(t *testing.T) {
	for _, c := range instrRows() {
		s := beginText(t, c.text, large)
		gone := 0
		for _, want := range c.want {
			n, words, _ := strings.Cut(want, ": ")
			steps, _ := strconv.Atoi(n)
			s.through(steps - gone)
			gone = steps
			if got := s.tell(); got != words {
				t.Errorf("%s, %d steps:\n%s, should be\n%s", c.text, steps, got, words)
			}
		}
	}
}

type instrRow struct {
	text string
	want []string
}

func instrRows() []instrRow {
	return []instrRow{
		// fail
		{"pred p/1, fail", []string{
			"0: running 0; ref 0; X0 ref 0",
			"1: failure 0; ref 0; X0 ref 0",
		}},
		{"pred p/1, getcon a X0, fail", []string{"2: failure 1; con 0; X0 ref 0"}},
		{"pred p/1, try @1, getcon a X0, fail, @1, trust, proceed", []string{
			"2: running 2; b 1; con 0; trail 0; X0 ref 0",
			"3: running 3; b 1; ref 0; X0 ref 0",
		}},
		// getvar, putval
		{"pred p/2, getvar X3 X1, proceed", []string{"1: running 1; ref 0, ref 1; X0 ref 0; X1 ref 1; X3 ref 1"}},
		{"pred p/2, getvar X1 X1, proceed", []string{"1: running 1; ref 0, ref 1; X0 ref 0; X1 ref 1"}},
		{"pred p/2, allocate 2, getvar Y1 X1, deallocate, proceed", []string{"2: running 2; e 0; ref 0, ref 1; X0 ref 0; X1 ref 1; Y1 ref 1"}},
		{"pred p/1, putcon a X1, getvar X2 X1, proceed", []string{"2: running 2; ref 0; X0 ref 0; X1 con 0; X2 con 0"}},
		{"pred p/2, getval X0 X1, getvar X2 X1, proceed", []string{"2: running 2; ref 0, ref 0; X0 ref 0; X1 ref 1; X2 ref 1"}},
		{"pred p/2, putval X1 X0, proceed", []string{"1: running 1; ref 0, ref 1; X0 ref 1; X1 ref 1"}},
		{"pred p/2, putval X1 X15, proceed", []string{"1: running 1; ref 0, ref 1; X0 ref 0; X1 ref 1; X15 ref 1"}},
		{"pred p/2, allocate 1, getvar Y0 X1, putval Y0 X0, deallocate, proceed", []string{"3: running 3; e 0; ref 0, ref 1; X0 ref 1; X1 ref 1; Y0 ref 1"}},
		{"pred p/2, getval X0 X1, putval X1 X2, proceed", []string{"2: running 2; ref 0, ref 0; X0 ref 0; X1 ref 1; X2 ref 1"}},
		// getval
		{"pred p/2, getval X0 X1, proceed", []string{"1: running 1; ref 0, ref 0; X0 ref 0; X1 ref 1"}},
		{"pred p/2, getval X1 X0, proceed", []string{"1: running 1; ref 0, ref 0; X0 ref 0; X1 ref 1"}},
		{"pred p/1, getval X0 X0, proceed", []string{"1: running 1; ref 0; X0 ref 0"}},
		{"pred p/2, getcon a X0, getval X1 X0, proceed", []string{"2: running 2; con 0, con 0; X0 ref 0; X1 ref 1"}},
		{"pred p/2, getcon a X0, getval X0 X1, proceed", []string{"2: running 2; con 0, con 0; X0 ref 0; X1 ref 1"}},
		{"pred p/2, getcon a X0, getcon b X1, getval X0 X1, proceed", []string{"3: failure 2; con 0, con 1; X0 ref 0; X1 ref 1"}},
		{"pred p/2, getcon a X0, getcon a X1, getval X0 X1, proceed", []string{"3: running 3; con 0, con 0; X0 ref 0; X1 ref 1"}},
		{"pred p/1, allocate 1, getvar Y0 X0, putcon a X0, getval Y0 X0, deallocate, proceed", []string{"4: running 4; e 0; con 0; X0 con 0; Y0 ref 0"}},
		{"pred p/2, putstr f/2 X2, unival X0, unicon a, putstr f/2 X3, unicon b, unival X1, getval X2 X3, proceed", []string{"7: running 7; con 1, con 0, fun 0, ref 0, con 0, fun 0, con 1, ref 1; X0 ref 0; X1 ref 1; X2 str 2; X3 str 5"}},
		{"pred p/2, putstr f/2 X2, unival X0, unicon a, putstr f/2 X3, unicon b, unicon c, getval X2 X3, proceed", []string{"7: failure 6; con 1, ref 1, fun 0, ref 0, con 0, fun 0, con 1, con 2; X0 ref 0; X1 ref 1; X2 str 2; X3 str 5"}},
		{"pred p/2, putstr f/1 X2, unival X0, putstr g/1 X3, unicon b, getval X2 X3, proceed", []string{"5: failure 4; ref 0, ref 1, fun 0, ref 0, fun 1, con 0; X0 ref 0; X1 ref 1; X2 str 2; X3 str 4"}},
		{"pred p/2, putstr f/1 X2, unival X0, putstr f/2 X3, univoid 2, getval X2 X3, proceed", []string{"5: failure 4; ref 0, ref 1, fun 0, ref 0, fun 1, ref 5, ref 6; X0 ref 0; X1 ref 1; X2 str 2; X3 str 4"}},
		{"pred p/2, putlis X2, unival X0, unicon a, putlis X3, unicon b, unival X1, getval X2 X3, proceed", []string{"7: running 7; con 1, con 0, ref 0, con 0, con 1, ref 1; X0 ref 0; X1 ref 1; X2 lis 2; X3 lis 4"}},
		{"pred p/1, putlis X2, univoid 2, putstr f/2 X3, univoid 2, getval X2 X3, proceed", []string{"5: failure 4; ref 0, ref 1, ref 2, fun 0, ref 4, ref 5; X0 ref 0; X2 lis 1; X3 str 3"}},
		{"pred p/1, putlis X2, univoid 2, getval X2 X0, proceed", []string{"3: running 3; lis 1, ref 1, ref 2; X0 ref 0; X2 lis 1"}},
		{"pred p/1, putcon a X2, putlis X1, univoid 2, getval X1 X2, proceed", []string{"4: failure 3; ref 0, ref 1, ref 2; X0 ref 0; X1 lis 1; X2 con 0"}},
		// getcon
		{"pred p/2, getcon a X1, proceed", []string{"1: running 1; ref 0, con 0; X0 ref 0; X1 ref 1"}},
		{"pred p/2, getcon a X1, getcon a X1, proceed", []string{"2: running 2; ref 0, con 0; X0 ref 0; X1 ref 1"}},
		{"pred p/2, getcon a X1, getcon b X1, proceed", []string{"2: failure 1; ref 0, con 0; X0 ref 0; X1 ref 1"}},
		{"pred p/2, getval X0 X1, getcon a X1, proceed", []string{"2: running 2; con 0, ref 0; X0 ref 0; X1 ref 1"}},
		{"pred p/1, getlis X0, univoid 2, getcon a X0, proceed", []string{"3: failure 2; lis 1, ref 1, ref 2; X0 ref 0"}},
		{"pred p/1, getstr a/1 X0, univoid 1, getcon a X0, proceed", []string{"3: failure 2; str 1, fun 0, ref 2; X0 ref 0"}},
		{"pred p/1, try @1, getcon a X0, proceed, @1, trust, fail", []string{"2: running 2; b 1; con 0; trail 0; X0 ref 0"}},
		// getstr
		{"pred p/2, getstr f/2 X1, univoid 2, proceed", []string{"1: running 1; write; ref 0, str 2, fun 0; X0 ref 0; X1 ref 1"}},
		{"pred p/2, getval X0 X1, getstr f/1 X1, univoid 1, proceed", []string{"2: running 2; write; str 2, ref 0, fun 0; X0 ref 0; X1 ref 1"}},
		{"pred p/1, getstr f/2 X0, univoid 2, getstr f/2 X0, univoid 2, proceed", []string{"3: running 3; s 2; str 1, fun 0, ref 2, ref 3; X0 ref 0"}},
		{"pred p/1, getstr f/2 X0, univoid 2, getstr f/1 X0, univoid 1, proceed", []string{"3: failure 2; str 1, fun 0, ref 2, ref 3; X0 ref 0"}},
		{"pred p/1, getstr f/2 X0, univoid 2, getstr g/2 X0, univoid 2, proceed", []string{"3: failure 2; str 1, fun 0, ref 2, ref 3; X0 ref 0"}},
		{"pred p/1, getlis X0, univoid 2, getstr f/2 X0, univoid 2, proceed", []string{"3: failure 2; lis 1, ref 1, ref 2; X0 ref 0"}},
		{"pred p/1, getcon f X0, getstr f/1 X0, univoid 1, proceed", []string{"2: failure 1; con 0; X0 ref 0"}},
		{"pred p/1, try @1, getstr f/1 X0, univoid 1, proceed, @1, trust, fail", []string{"2: running 2; b 1; write; str 1, fun 0; trail 0; X0 ref 0"}},
		// getlis
		{"pred p/2, getlis X1, univoid 2, proceed", []string{"1: running 1; write; ref 0, lis 2; X0 ref 0; X1 ref 1"}},
		{"pred p/2, getval X0 X1, getlis X1, univoid 2, proceed", []string{"2: running 2; write; lis 2, ref 0; X0 ref 0; X1 ref 1"}},
		{"pred p/1, getlis X0, univoid 2, getlis X0, univoid 2, proceed", []string{"3: running 3; s 1; lis 1, ref 1, ref 2; X0 ref 0"}},
		{"pred p/1, getstr f/2 X0, univoid 2, getlis X0, univoid 2, proceed", []string{"3: failure 2; str 1, fun 0, ref 2, ref 3; X0 ref 0"}},
		{"pred p/1, getcon a X0, getlis X0, univoid 2, proceed", []string{"2: failure 1; con 0; X0 ref 0"}},
		{"pred p/1, try @1, getlis X0, univoid 2, proceed, @1, trust, fail", []string{"2: running 2; b 1; write; lis 1; trail 0; X0 ref 0"}},
		// univar
		{"pred p/1, getlis X0, univar X1, univoid 1, proceed", []string{"2: running 2; write; lis 1, ref 1; X0 ref 0; X1 ref 1"}},
		{"pred p/1, getlis X0, univar X0, univoid 1, proceed", []string{"2: running 2; write; lis 1, ref 1; X0 ref 1"}},
		{"pred p/1, allocate 2, getlis X0, univar Y1, univar Y0, deallocate, proceed", []string{"4: running 4; e 0; lis 1, ref 1, ref 2; X0 ref 0; Y0 ref 2; Y1 ref 1"}},
		{"pred p/1, getlis X0, unicon a, univoid 1, getlis X0, univar X1, univar X2, proceed", []string{
			"5: running 5; s 2; lis 1, con 0, ref 2; X0 ref 0; X1 con 0",
			"6: running 6; lis 1, con 0, ref 2; X0 ref 0; X1 con 0; X2 ref 2",
		}},
		{"pred p/1, getstr f/2 X0, unival X0, unicon b, getstr f/2 X0, univar X1, univar X2, proceed", []string{"6: running 6; str 1, fun 0, ref 0, con 0; X0 ref 0; X1 ref 0; X2 con 0"}},
		{"pred p/1, getlis X0, univoid 2, getlis X0, univar X1, univar X2, getval X1 X2, getlis X0, univar X3, univar X4, proceed", []string{"8: running 8; s 2; lis 1, ref 1, ref 1; X0 ref 0; X1 ref 1; X2 ref 2; X3 ref 1"}},
		{"pred p/1, allocate 1, getlis X0, unicon a, univoid 1, getlis X0, univar Y0, univoid 1, deallocate, proceed", []string{"6: running 6; e 0; s 2; lis 1, con 0, ref 2; X0 ref 0; Y0 con 0"}},
		// unival
		{"pred p/2, getlis X0, unival X1, univoid 1, proceed", []string{"2: running 2; write; lis 2, ref 1, ref 1; X0 ref 0; X1 ref 1"}},
		{"pred p/2, getval X0 X1, getlis X1, unival X1, univoid 1, proceed", []string{"3: running 3; write; lis 2, ref 0, ref 1; X0 ref 0; X1 ref 1"}},
		{"pred p/2, allocate 1, getvar Y0 X1, getlis X0, unival Y0, univoid 1, deallocate, proceed", []string{"4: running 4; e 0; write; lis 2, ref 1, ref 1; X0 ref 0; X1 ref 1; Y0 ref 1"}},
		{"pred p/2, getlis X0, unicon a, univoid 1, getlis X0, unival X1, univoid 1, proceed", []string{"5: running 5; s 3; lis 2, con 0, con 0, ref 3; X0 ref 0; X1 ref 1"}},
		{"pred p/2, getcon b X1, getlis X0, unicon a, univoid 1, getlis X0, unival X1, univoid 1, proceed", []string{"6: failure 5; s 3; lis 2, con 0, con 1, ref 3; X0 ref 0; X1 ref 1"}},
		{"pred p/2, getcon b X1, getlis X0, univoid 2, getlis X0, univoid 1, unival X1, proceed", []string{"6: running 6; lis 2, con 0, ref 2, con 0; X0 ref 0; X1 ref 1"}},
		{"pred p/2, getcon b X1, getlis X0, univoid 1, unicon a, try @1, getlis X0, univoid 1, unival X1, proceed, @1, trust, proceed", []string{"8: running 9; b 1; lis 2, con 0, ref 2, con 1; X0 ref 0; X1 ref 1"}},
		// unicon
		{"pred p/1, getlis X0, unicon b, unicon a, proceed", []string{"3: running 3; lis 1, con 0, con 1; X0 ref 0"}},
		{"pred p/1, getlis X0, univoid 2, getlis X0, unicon a, unicon b, proceed", []string{
			"4: running 4; s 2; lis 1, con 0, ref 2; X0 ref 0",
			"5: running 5; lis 1, con 0, con 1; X0 ref 0",
		}},
		{"pred p/1, getlis X0, univoid 1, unicon a, getlis X0, univoid 1, unicon a, proceed", []string{"6: running 6; lis 1, ref 1, con 0; X0 ref 0"}},
		{"pred p/1, getlis X0, univoid 1, unicon a, getlis X0, univoid 1, unicon b, proceed", []string{"6: failure 5; s 3; lis 1, ref 1, con 0; X0 ref 0"}},
		{"pred p/1, putlis X1, univoid 2, getlis X0, unival X1, univoid 1, getlis X0, unicon b, univoid 1, proceed", []string{"7: failure 6; s 4; lis 3, ref 1, ref 2, lis 1, ref 4; X0 ref 0; X1 lis 1"}},
		{"pred p/1, putlis X1, univoid 2, getlis X0, univoid 1, unival X1, getlis X0, univoid 1, unicon b, proceed", []string{"8: failure 7; s 5; lis 3, ref 1, ref 2, ref 3, lis 1; X0 ref 0; X1 lis 1"}},
		// univoid
		{"pred p/1, getstr f/8 X0, univoid 8, proceed", []string{"2: running 2; str 1, fun 0, ref 2, ref 3, ref 4, ref 5, ref 6, ref 7, ref 8, ref 9; X0 ref 0"}},
		{"pred p/1, getstr f/8 X0, univoid 3, univoid 5, proceed", []string{"2: running 2; write; str 1, fun 0, ref 2, ref 3, ref 4; X0 ref 0"}},
		{"pred p/1, getstr f/8 X0, univoid 8, getstr f/8 X0, univoid 7, univar X1, proceed", []string{
			"4: running 4; s 9; str 1, fun 0, ref 2, ref 3, ref 4, ref 5, ref 6, ref 7, ref 8, ref 9; X0 ref 0",
			"5: running 5; str 1, fun 0, ref 2, ref 3, ref 4, ref 5, ref 6, ref 7, ref 8, ref 9; X0 ref 0; X1 ref 9",
		}},
		// put
		{"pred p/1, putvar X2 X5, proceed", []string{"1: running 1; ref 0, ref 1; X0 ref 0; X2 ref 1; X5 ref 1"}},
		{"pred p/1, putvar X0 X0, proceed", []string{"1: running 1; ref 0, ref 1; X0 ref 1"}},
		{"pred p/0, allocate 1, putvar Y0 X0, deallocate, proceed", []string{"2: running 2; e 0; ref 0; X0 ref 0; Y0 ref 0"}},
		{"pred p/1, putcon a X0, putcon b X15, proceed", []string{"2: running 2; ref 0; X0 con 0; X15 con 1"}},
		{"pred p/1, putstr f/2 X0, unicon a, unival X0, proceed", []string{
			"1: running 1; write; ref 0, fun 0; X0 str 1",
			"3: running 3; ref 0, fun 0, con 0, str 1; X0 str 1",
		}},
		{"pred p/1, putlis X1, unicon a, unival X0, proceed", []string{
			"1: running 1; write; ref 0; X0 ref 0; X1 lis 1",
			"3: running 3; ref 0, con 0, ref 0; X0 ref 0; X1 lis 1",
		}},
		// allocate, deallocate
		{"pred p/1, allocate 0, deallocate, proceed", []string{
			"1: running 1; e 0; ref 0; X0 ref 0",
			"2: running 2; ref 0; X0 ref 0",
			"3: success 2; ref 0; X0 ref 0",
		}},
		{"pred p/1, allocate 16, getvar Y15 X0, deallocate, proceed", []string{"2: running 2; e 0; ref 0; X0 ref 0; Y15 ref 0"}},
		{"pred p/1, allocate 2, getvar Y1 X0, deallocate, allocate 1, getvar Y0 X0, deallocate, proceed", []string{"5: running 5; e 0; ref 0; X0 ref 0; Y0 ref 0"}},
		{"pred p/1, allocate 2, getvar Y1 X0, call q/0, deallocate, proceed, pred q/0, allocate 1, putvar Y0 X0, deallocate, proceed", []string{
			"4: running 6; cp 3; e 5; ref 0",
			"5: running 7; cp 3; e 5; ref 0, ref 1; X0 ref 1; Y0 ref 1",
			"6: running 8; cp 3; e 0; ref 0, ref 1; X0 ref 1",
			"7: running 3; cp 3; e 0; ref 0, ref 1; Y1 ref 0",
			"8: running 4; ref 0, ref 1",
			"9: success 4; ref 0, ref 1",
		}},
		// an environment that a choice keeps: q's, when p goes on
		{"pred p/0, allocate 1, call q/0, putvar Y0 X0, call r/0, deallocate, proceed, pred q/0, allocate 2, putvar Y0 X0, call s/0, putval Y0 X0, putvar Y1 X0, deallocate, proceed, pred r/0, allocate 0, deallocate, fail, pred s/0, try @1, proceed, @1, trust, proceed", []string{
			"5: running 16; cp 9; e 4; ref 0",
			"6: running 17; cp 9; e 4; b 1; ref 0",
			"11: running 2; cp 2; e 0; b 1; ref 0, ref 1",
			"13: running 13; cp 4; e 0; b 1; b0 1; ref 0, ref 1, ref 2",
			"14: running 14; cp 4; e 9; b 1; b0 1; ref 0, ref 1, ref 2",
			"15: running 15; cp 4; e 0; b 1; b0 1; ref 0, ref 1, ref 2",
			"16: running 18; cp 9; e 4; b 1; ref 0",
			"18: running 9; cp 9; e 4; ref 0; Y0 ref 0",
			"24: running 13; cp 4; e 0; ref 0, ref 1, ref 2",
			"25: running 14; cp 4; e 4; ref 0, ref 1, ref 2",
			"26: running 15; cp 4; e 0; ref 0, ref 1, ref 2",
			"30: failure 15; cp 4; e 0; ref 0, ref 1, ref 2",
		}},
		// call, execute, proceed
		{"pred p/1, allocate 0, call q/1, deallocate, proceed, pred q/1, proceed", []string{
			"2: running 4; cp 2; e 0; ref 0; X0 ref 0",
			"3: running 2; cp 2; e 0; ref 0",
			"5: success 3; ref 0",
		}},
		{"pred p/1, execute q/1, pred q/1, getcon a X0, proceed", []string{
			"1: running 1; ref 0; X0 ref 0",
			"3: success 2; con 0; X0 ref 0",
		}},
		{"pred p/1, allocate 0, call q/1, deallocate, execute r/0, pred q/1, execute r/0, pred r/0, proceed", []string{
			"3: running 5; cp 2; e 0; ref 0",
			"4: running 2; cp 2; e 0; ref 0",
			"6: running 5; ref 0",
		}},
		{"pred p/1, try @1, execute q/1, @1, trust, proceed, pred q/1, proceed", []string{"2: running 4; b 1; b0 1; ref 0; X0 ref 0"}},
		{"pred p/1, try @1, allocate 0, call q/1, deallocate, proceed, @1, trust, proceed, pred q/1, proceed", []string{
			"3: running 7; cp 3; e 0; b 1; b0 1; ref 0; X0 ref 0",
			"4: running 3; cp 3; e 0; b 1; ref 0",
		}},
		// try, retry, trust
		{"pred p/2, try @1, getcon a X0, fail, @1, retry @2, getcon b X1, fail, @2, trust, proceed", []string{
			"1: running 1; b 1; ref 0, ref 1; X0 ref 0; X1 ref 1",
			"3: running 3; b 1; ref 0, ref 1; X0 ref 0; X1 ref 1",
			"4: running 4; b 1; ref 0, ref 1; X0 ref 0; X1 ref 1",
			"5: running 5; b 1; ref 0, con 1; trail 1; X0 ref 0; X1 ref 1",
			"6: running 6; b 1; ref 0, ref 1; X0 ref 0; X1 ref 1",
			"7: running 7; ref 0, ref 1; X0 ref 0; X1 ref 1",
			"8: success 7; ref 0, ref 1; X0 ref 0; X1 ref 1",
			"9: failure 7; ref 0, ref 1; X0 ref 0; X1 ref 1",
		}},
		{"pred p/1, try @1, try @2, putvar X0 X0, fail, @1, trust, fail, @2, trust, proceed", []string{
			"2: running 2; b 2; ref 0; X0 ref 0",
			"4: running 6; b 2; ref 0; X0 ref 0",
			"5: running 7; b 1; ref 0; X0 ref 0",
			"7: running 4; b 1; ref 0; X0 ref 0",
		}},
		{"pred p/1, putcon a X0, try @1, fail, @1, trust, proceed", []string{"3: running 3; b 1; ref 0; X0 con 0"}},
		// trail: what was there at the last choice, and what came behind it
		{"pred p/1, putvar X1 X1, try @1, getcon a X1, getcon a X0, putvar X2 X2, getcon a X2, fail, @1, trust, proceed", []string{
			"6: running 6; b 1; con 0, con 0, con 0; trail 1 0; X0 ref 0; X1 ref 1; X2 ref 2",
			"7: running 7; b 1; ref 0, ref 1; X0 ref 0",
		}},
		{"pred p/2, try @1, putvar X2 X3, try @2, getval X0 X3, getval X0 X1, getcon a X0, fail, @1, trust, proceed, @2, trust, fail", []string{
			"6: running 6; b 2; con 0, ref 0, ref 0; trail 2 1 0; X0 ref 0; X1 ref 1; X2 ref 2; X3 ref 2",
			"7: running 9; b 2; ref 0, ref 1, ref 2; X0 ref 0; X1 ref 1",
			"8: running 10; b 1; ref 0, ref 1, ref 2; X0 ref 0; X1 ref 1",
			"9: running 7; b 1; ref 0, ref 1; X0 ref 0; X1 ref 1",
		}},
		// neckcut
		{"pred p/1, try @1, getcon a X0, neckcut, getlis X0, univoid 2, proceed, @1, trust, proceed", []string{
			"2: running 2; b 1; con 0; trail 0; X0 ref 0",
			"3: running 3; con 0; trail 0; X0 ref 0",
			"4: failure 3; con 0; trail 0; X0 ref 0",
		}},
		{"pred p/1, neckcut, proceed", []string{"1: running 1; ref 0; X0 ref 0"}},
		{"pred p/1, try @1, try @1, neckcut, proceed, @1, trust, proceed", []string{"3: running 3; ref 0; X0 ref 0"}},
		{"pred p/1, try @1, execute q/1, @1, trust, proceed, pred q/1, neckcut, try @2, neckcut, proceed, @2, trust, proceed", []string{
			"3: running 5; b 1; b0 1; ref 0; X0 ref 0",
			"4: running 6; b 2; b0 1; ref 0; X0 ref 0",
			"5: running 7; b 1; b0 1; ref 0; X0 ref 0",
		}},
		{"pred p/1, try @1, execute q/1, @1, trust, proceed, pred q/1, try @2, getcon a X0, fail, @2, trust, neckcut, fail", []string{"6: running 8; b 1; b0 1; ref 0; X0 ref 0"}},
		{"pred p/1, try @1, execute q/1, @1, trust, proceed, pred q/1, try @2, getcon a X0, fail, @2, retry @3, neckcut, fail, @3, trust, fail", []string{
			"6: running 8; b 2; b0 1; ref 0; X0 ref 0",
			"7: running 9; b 1; b0 1; ref 0; X0 ref 0",
			"8: running 2; b 1; ref 0; X0 ref 0",
		}},
		// getlevel, cut
		{"pred p/0, allocate 1, getlevel Y0, call q/0, call q/0, cut Y0, deallocate, proceed, pred q/0, try @1, proceed, @1, retry @2, proceed, @2, trust, proceed", []string{
			"2: running 2; e 0; Y0 0",
			"8: running 4; cp 4; e 0; b 2; Y0 0",
			"9: running 5; cp 4; e 0; Y0 0",
			"11: success 6",
			"12: failure 6",
		}},
		{"pred p/0, try @1, execute q/0, @1, trust, proceed, pred q/0, allocate 2, getlevel Y1, putvar Y0 X0, call r/0, cut Y1, cut Y1, deallocate, fail, pred r/0, try @2, proceed, @2, trust, proceed", []string{
			"4: running 6; e 0; b 1; b0 1; Y1 1",
			"8: running 8; cp 8; e 0; b 2; ref 0; Y0 ref 0; Y1 1",
			"9: running 9; cp 8; e 0; b 1; ref 0; Y0 ref 0; Y1 1",
			"10: running 10; cp 8; e 0; b 1; ref 0; Y0 ref 0; Y1 1",
			"12: running 2; b 1",
		}},
		// what a choice's mark took to the trail stays there, when the choice is cut
		{"pred p/1, try @1, getcon a X0, try @2, neckcut, proceed, @1, trust, fail, @2, trust, fail", []string{"4: running 4; con 0; trail 0; X0 ref 0"}},
		// switch
		{"pred p/1, switch @1 @2 @3 @4, @1, getcon a X0, @2, getcon a X0, @3, proceed, @4, proceed", []string{"1: running 1; ref 0; X0 ref 0"}},
		{"pred p/1, getcon a X0, switch @1 @2 @3 @4, @1, fail, @2, proceed, @3, fail, @4, fail", []string{"2: running 3; con 0; X0 ref 0"}},
		{"pred p/1, getlis X0, univoid 2, switch @1 @2 @3 @4, @1, fail, @2, fail, @3, proceed, @4, fail", []string{"3: running 5; lis 1, ref 1, ref 2; X0 ref 0"}},
		{"pred p/1, getstr f/1 X0, univoid 1, switch @1 @2 @3 @4, @1, fail, @2, fail, @3, fail, @4, proceed", []string{"3: running 6; str 1, fun 0, ref 2; X0 ref 0"}},
		{"pred p/1, switch - @2 @2 @2, @2, proceed", []string{"1: failure 0; ref 0; X0 ref 0"}},
		{"pred p/1, getcon a X0, switch @1 - @1 @1, @1, proceed", []string{"2: failure 1; con 0; X0 ref 0"}},
		{"pred p/1, getlis X0, univoid 2, switch @1 @1 - @1, @1, proceed", []string{"3: failure 2; lis 1, ref 1, ref 2; X0 ref 0"}},
		{"pred p/1, getstr f/1 X0, univoid 1, switch @1 @1 @1 -, @1, proceed", []string{"3: failure 2; str 1, fun 0, ref 2; X0 ref 0"}},
		{"pred p/1, try @0, switch - @1 @1 @1, @1, proceed, @0, trust, proceed", []string{"2: running 3; b 1; ref 0; X0 ref 0"}},
		{"pred p/2, getval X0 X1, putval X1 X0, getcon a X0, switch @1 @2 @1 @1, @1, fail, @2, proceed", []string{"4: running 5; con 0, ref 0; X0 ref 1; X1 ref 1"}},
		{"pred p/1, switch - - - -", []string{"1: failure 0; ref 0; X0 ref 0"}},
		// what comes together
		{"pred p/2, allocate 3, getlevel Y2, getvar Y1 X1, switch @1 @2 @2 @2, @1, putcon a X2, getvar Y0 X0, @2, deallocate, proceed", []string{"6: running 6; e 0; ref 0, ref 1; X0 ref 0; X1 ref 1; Y1 ref 1; Y2 0"}},
		{"pred p/2, allocate 3, getlevel Y2, switch @1 @2 @2 @2, @1, putcon a X1, putcon a X2, getvar Y0 X0, @2, putval X1 X0, deallocate, proceed", []string{"6: running 6; e 0; ref 0, ref 1; X0 ref 0; X1 con 0; Y2 0"}},
		// success
		{"pred p/0, proceed", []string{"1: success 0"}},
	}
}
