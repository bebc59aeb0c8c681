package verify

import (
	"slices"
	"strconv"
	"strings"
	"testing"

	"resolvent/asm"
)

// holdNeeds holds the Needs of all places, three numbers each, with a blank between.
func holdNeeds(t *testing.T, text, want string) {
	t.Helper()
	var l []string
	for _, n := range holdRight(t, text).Needs {
		l = append(l, strconv.Itoa(n.Cells)+","+strconv.Itoa(n.Words)+","+strconv.Itoa(n.Choices))
	}
	if got := strings.Join(l, " "); got != want {
		t.Errorf("%v: %v; should be %v", text, got, want)
	}
}

// P11.1: what each instruction brings by itself; those that bring nothing.
func TestNeedOfEach(t *testing.T) {
	for _, c := range []struct{ text, want string }{
		{"pred p/2, getvar X2 X0, getval X2 X0, getcon a X0, putval X0 X3, putcon a X4, neckcut, proceed", "0,0,0 0,0,0 0,0,0 0,0,0 0,0,0 0,0,0 0,0,0"},
		{"pred p/1, getlis X0, univar X1, unival X1, fail", "2,0,0 0,0,0 0,0,0 0,0,0"},
		{"pred p/1, putlis X0, unicon a, univoid 1, fail", "2,0,0 0,0,0 0,0,0 0,0,0"},
		{"pred p/1, putvar X0 X0, fail", "1,0,0 0,0,0"},
		{"pred p/1, allocate 2, putvar Y0 X1, getlevel Y1, cut Y1, deallocate, proceed", "1,5,0 1,0,0 0,0,0 0,0,0 0,0,0 0,0,0"},
		{"pred p/1, try @2, proceed, @2, retry @4, proceed, @4, trust, proceed", "0,0,1 0,0,0 0,0,0 0,0,0 0,0,0 0,0,0"},
		{"pred p/1, switch - - - -", "0,0,0"},
	} {
		holdNeeds(t, c.text, c.want)
	}
	for n := range 17 {
		holdNeeds(t, "pred p/0, allocate "+strconv.Itoa(n)+", deallocate, proceed", "0,"+strconv.Itoa(n+3)+",0 0,0,0 0,0,0")
	}
}

// P11.1: getstr and putstr of all arities; of Arity 0 there is none.
func TestNeedOfStr(t *testing.T) {
	for _, op := range []string{"getstr", "putstr"} {
		for n := 1; n <= 8; n++ {
			a := strconv.Itoa(n)
			holdNeeds(t, "pred p/1, "+op+" f/"+a+" X0, univoid "+a+", proceed", strconv.Itoa(n+1)+",0,0 0,0,0 0,0,0")
		}
		for _, a := range []int{0, 9} {
			o := program(t, "pred p/1, "+op+" f/1 X0, univoid 1, proceed")
			o.Names.Funs[0].Arity = a
			holdFault(t, a, o, 7, -1)
		}
		if _, e, _ := asm.Program("pred p/1", op+" f/0 X0", "proceed"); e == 0 {
			t.Error(op)
		}
	}
}

// P11.1: up to each boundary, which itself brings nothing; what stands behind it is another Need.
func TestNeedBoundaries(t *testing.T) {
	holdNeeds(t, "pred p/1, allocate 1, putlis X0, univoid 2, call p/1, putvar Y0 X0, putlis X1, univoid 2, call p/1, putstr f/1 X0, univoid 1, deallocate, execute p/1",
		"2,4,0 2,0,0 0,0,0 0,0,0 3,0,0 2,0,0 0,0,0 0,0,0 2,0,0 0,0,0 0,0,0 0,0,0")
	for _, last := range []string{"fail", "proceed", "execute p/1", "switch - - - -"} {
		holdNeeds(t, "pred p/1, getlis X0, univoid 2, "+last+", pred q/0, putstr f/8 X0, univoid 8, proceed", "2,0,0 0,0,0 0,0,0 9,0,0 0,0,0 0,0,0")
	}
	// Another way is one: what it brings isn't of the try, nor of the retry.
	holdNeeds(t, "pred p/1, getlis X0, univoid 2, try @5, putvar X1 X2, proceed, @5, retry @9, putlis X3, univoid 2, proceed, @9, trust, putstr f/8 X3, univoid 8, allocate 16, fail",
		"3,0,1 1,0,1 1,0,1 1,0,0 0,0,0 2,0,0 2,0,0 0,0,0 0,0,0 9,19,0 9,19,0 0,19,0 0,19,0 0,0,0")
	// Tries one behind the other; what a cut, a trust or a deallocate gives back isn't taken off.
	holdNeeds(t, "pred p/0, try @4, try @4, neckcut, fail, @4, trust, try @8, try @8, fail, @8, trust, fail", "0,0,2 0,0,1 0,0,0 0,0,0 0,0,2 0,0,2 0,0,1 0,0,0 0,0,0 0,0,0")
	holdNeeds(t, "pred p/0, allocate 2, deallocate, allocate 4, deallocate, proceed", "0,12,0 0,7,0 0,7,0 0,0,0 0,0,0")
}

// P11.1: of several ways the greatest of each, also where one has the most cells, another one words, another one choices, whichever of a switch's Labels goes there.
func TestNeedWays(t *testing.T) {
	labels := []string{"@1", "@4", "@7", "-"}
	for k := range 4 {
		turned := strings.Join(slices.Concat(labels[k:], labels[:k]), " ")
		holdNeeds(t, "pred p/1, switch "+turned+", @1, putstr f/4 X0, univoid 4, fail, @4, allocate 3, putvar X1 X1, fail, @7, try @10, try @10, fail, @10, trust, putlis X0, univoid 2, fail",
			"5,6,2 5,0,0 0,0,0 0,0,0 1,6,0 1,0,0 0,0,0 0,0,2 0,0,1 0,0,0 2,0,0 2,0,0 0,0,0 0,0,0")
	}
	// Behind where ways come together all have the same to come; one Label twice is one way.
	holdNeeds(t, "pred p/1, putlis X1, univoid 2, switch @3 @5 @3 @5, @3, putlis X1, univoid 2, @5, putvar X2 X2, fail", "5,0,0 3,0,0 3,0,0 3,0,0 1,0,0 1,0,0 0,0,0")
	// 0: switch, 1: putvar, 2: switch, 3: allocate, 4: fail, 5: putvar, 6: allocate, 7: call.
	holdNeeds(t, "pred p/1, switch @1 @2 @5 -, @1, putvar X0 X0, @2, switch @3 - - @5, @3, allocate 9, fail, @5, putvar X1 X1, allocate 5, call p/1, putlis X0, univoid 2, fail",
		"2,12,0 2,12,0 1,12,0 0,12,0 0,0,0 1,8,0 0,8,0 0,0,0 2,0,0 0,0,0 0,0,0")
}
