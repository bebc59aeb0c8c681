package area

import (
	"math"
	"slices"
	"testing"

	"resolvent/api"
	"resolvent/cell"
)

// most is MaxCells as the document has it, so that a change of the limit shows.
const most = 65536

var wrongCells = []cell.Cell{5, 6, 7, 1 << 43, 1<<43 | cell.Con, 1 << 63, math.MaxUint64}

// of makes an Area of some room that has some cells.
func of(t *testing.T, room int, cells ...cell.Cell) *Area {
	t.Helper()
	a, e := New(room)
	if e != api.OK || a == nil {
		t.Fatal(room, e)
	}
	for i, c := range cells {
		if !a.Push(c) {
			t.Fatal("no room", room, i)
		}
	}
	return a
}

// holds tells where an Area isn't as it should be, by all calls that only look.
func holds(t *testing.T, a *Area, room int, want ...cell.Cell) {
	t.Helper()
	if a.Top() != len(want) || a.Free() != room-len(want) {
		t.Errorf("Top %d, Free %d; should be %d, %d", a.Top(), a.Free(), len(want), room-len(want))
	}
	if got := a.Cells(); !slices.Equal(got, want) {
		t.Errorf("Cells %d; should be %d", got, want)
	}
	for i, w := range want {
		if c, ok := a.Get(i); c != w || !ok {
			t.Errorf("Get(%d): %d, %t; should be %d", i, c, ok, w)
		}
	}
}

// P2.1: the document's example.
func TestExample(t *testing.T) {
	a := of(t, 1)
	if !a.Push(8) || a.Push(8) || !a.Cut(0) || a.Free() != 1 {
		t.Error(a.Top(), a.Free(), a.Cells())
	}
}

// P2.1: New answers for each room that may be, and for no other.
func TestNewRooms(t *testing.T) {
	for _, room := range []int{0, 1, 2, 1000, most - 1, most} {
		a, e := New(room)
		if a == nil || e != api.OK {
			t.Error(room, e)
			continue
		}
		holds(t, a, room)
	}
	for _, room := range []int{-1, -2, -most, most + 1, most + 2, 1 << 32, math.MinInt, math.MaxInt} {
		if a, e := New(room); a != nil || e != api.ErrArg {
			t.Error(room, a, e)
		}
	}
}

// P2.1: as many cells come as there is room for, and not one more.
func TestRoomIsFilled(t *testing.T) {
	for _, room := range []int{0, 1, 2, 3, 100, most} {
		a := of(t, room)
		for i := range room {
			if a.Top() != i || a.Free() != room-i || !a.Push(cell.Make(cell.Con, i)) {
				t.Fatal(room, i)
			}
		}
		for range 3 {
			if a.Push(8) {
				t.Fatal("more than its room", room)
			}
		}
		if a.Top() != room || a.Free() != 0 || len(a.Cells()) != room {
			t.Error(room, a.Top(), a.Free())
		}
		for i, c := range a.Cells() {
			if c != cell.Make(cell.Con, i) {
				t.Fatal(room, i, c)
			}
		}
	}
}

// P2.1: room 0.
func TestNoRoom(t *testing.T) {
	a := of(t, 0)
	if a.Push(0) || a.Set(0, 0) || a.Cut(1) || a.Cut(-1) || !a.Cut(0) {
		t.Error("something was done")
	}
	if c, ok := a.Get(0); c != 0 || ok {
		t.Error(c, ok)
	}
	holds(t, a, 0)
}

// P2.1: cells that aren't Right come nowhere, and nothing changes.
func TestWrongCells(t *testing.T) {
	a := of(t, 4, 8, 16)
	for _, c := range wrongCells {
		if a.Push(c) || a.Set(0, c) || a.Set(1, c) || a.Set(2, c) {
			t.Error(uint64(c))
		}
	}
	holds(t, a, 4, 8, 16)
}

// P2.1: cells of each kind come in, at both ends of their numbers.
func TestRightCells(t *testing.T) {
	a := of(t, 20)
	var want []cell.Cell
	for kind := cell.Ref; kind <= cell.Fun; kind++ {
		for _, n := range []int{0, api.MaxNumber - 1} {
			c := cell.Make(kind, n)
			if !a.Push(c) || !a.Set(0, c) {
				t.Error(kind, n)
			}
			want = append(want, c)
			want[0] = c
		}
	}
	holds(t, a, 20, want...)
}

// P2.1: Get and Set answer for the places that are there, from 0 on, and for no other.
func TestPlaces(t *testing.T) {
	a := of(t, 5, 8, 16, 24)
	for _, i := range []int{-1, -2, 3, 4, 5, 6, most, 1 << 32, math.MinInt, math.MaxInt} {
		if c, ok := a.Get(i); c != 0 || ok {
			t.Error("Get", i, c, ok)
		}
		if a.Set(i, 32) {
			t.Error("Set", i)
		}
	}
	holds(t, a, 5, 8, 16, 24)
	if !a.Set(0, 32) || !a.Set(2, 40) {
		t.Error("Set of a place that is there")
	}
	holds(t, a, 5, 32, 16, 40)
}

// P2.1: Cut lets the first ones stay, and nothing changes where it can't.
func TestCut(t *testing.T) {
	a := of(t, 5, 8, 16, 24, 32)
	for _, n := range []int{-1, -4, 5, 6, 1 << 32, math.MinInt, math.MaxInt} {
		if a.Cut(n) {
			t.Error(n)
		}
	}
	holds(t, a, 5, 8, 16, 24, 32)
	for n := 4; n >= 0; n-- {
		if !a.Cut(n) {
			t.Error(n)
		}
		holds(t, a, 5, []cell.Cell{8, 16, 24, 32}[:n]...)
		if c, ok := a.Get(n); c != 0 || ok || a.Set(n, 8) || a.Cut(n+1) {
			t.Error("a place that is cut", n)
		}
	}
}

// P2.1: behind a Cut there is room again, and what comes there is what comes.
func TestPushBehindCut(t *testing.T) {
	a := of(t, 3, 8, 16, 24)
	if !a.Cut(1) || !a.Push(32) {
		t.Error(a.Cells())
	}
	holds(t, a, 3, 8, 32)
	if !a.Push(40) || a.Push(48) {
		t.Error(a.Cells())
	}
	holds(t, a, 3, 8, 32, 40)
}

// P2.1: a nil Area has nothing and does nothing.
func TestNilArea(t *testing.T) {
	var a *Area
	if a.Top() != 0 || a.Free() != 0 || len(a.Cells()) != 0 {
		t.Error(a.Top(), a.Free(), a.Cells())
	}
	for _, i := range []int{-1, 0, 1, math.MinInt, math.MaxInt} {
		if c, ok := a.Get(i); c != 0 || ok {
			t.Error("Get", i, c, ok)
		}
		if a.Set(i, 8) || a.Cut(i) {
			t.Error("Set, Cut", i)
		}
	}
	if a.Push(8) || a.Push(5) {
		t.Error("Push")
	}
}

// P2.1: an Area that New didn't make has no room, and doesn't panic.
func TestZeroArea(t *testing.T) {
	a := &Area{}
	if a.Push(8) || a.Set(0, 8) || a.Cut(1) {
		t.Error("something was done")
	}
	holds(t, a, 0)
}

// P2.1: the calls of a Raw that aren't its own are its Area's, those of one without an Area the nil one's.
func TestRawIsItsArea(t *testing.T) {
	a := of(t, 3, 8)
	r := Raw{Area: a}
	if r.Top() != 1 || r.Free() != 2 || !r.Push(16) || r.Push(5) || !r.Set(0, 24) || r.Set(2, 8) || r.Cut(3) {
		t.Error(r.Cells())
	}
	holds(t, a, 3, 24, 16)
	if c, ok := r.Get(1); c != 16 || !ok || !r.Cut(1) || !slices.Equal(r.Cells(), []cell.Cell{24}) {
		t.Error(c, ok, r.Cells())
	}
	holds(t, a, 3, 24)
	var none Raw
	if _, ok := none.Get(0); ok || none.Top() != 0 || none.Free() != 0 || none.Push(8) || none.Set(0, 8) || none.Cut(0) || len(none.Cells()) != 0 {
		t.Error("a Raw without an Area")
	}
}

// P2.1: Add answers the place where, also behind a Cut, up to the last one.
func TestAddPlaces(t *testing.T) {
	a := of(t, most)
	r := Raw{Area: a}
	for i := range most {
		if p := r.Add(cell.Make(cell.Ref, i)); p != i {
			t.Fatal(i, p)
		}
	}
	if a.Top() != most || a.Free() != 0 || a.Push(8) || !a.Cut(most-1) || r.Add(8) != most-1 {
		t.Error(a.Top(), a.Free())
	}
	if !a.Cut(7) || r.Add(16) != 7 || a.Top() != 8 || r.At(7) != 16 || r.At(6) != cell.Make(cell.Ref, 6) {
		t.Error(a.Cells())
	}
}

// P2.2: what one way puts the other finds, for each cell.
func TestBothWaysMeet(t *testing.T) {
	a := of(t, 4, 8)
	r := Raw{Area: a}
	if r.Add(16) != 1 || !a.Push(24) {
		t.Fatal(a.Cells())
	}
	holds(t, a, 4, 8, 16, 24)
	r.Put(0, 32)
	r.Put(2, 40)
	holds(t, a, 4, 32, 16, 40)
	if !a.Set(1, 48) || r.At(0) != 32 || r.At(1) != 48 || r.At(2) != 40 {
		t.Error(a.Cells())
	}
	if second := (Raw{Area: a}); second.At(1) != 48 || second.Add(56) != 3 || r.At(3) != 56 {
		t.Error("two Raws of one Area", a.Cells())
	}
	holds(t, a, 4, 32, 48, 40, 56)
}

// P2.2: two Areas to which the same is done, one with a look and one without, stay the same.
func TestBothWaysStaySame(t *testing.T) {
	const room = 50
	looked, raw := of(t, room), Raw{Area: of(t, room)}
	x := uint64(7)
	next := func(n int) int {
		x = x*6364136223846793005 + 1442695040888963407
		return int(x>>33) % n
	}
	for range 20000 {
		c := cell.Make(next(5), next(1<<30))
		switch top := looked.Top(); {
		case top < room && next(2) == 0:
			if !looked.Push(c) || raw.Add(c) != top {
				t.Fatal("Add", top)
			}
		case top > 0 && next(4) > 0:
			i := next(top)
			looked.Set(i, c)
			raw.Put(i, c)
		default:
			n := next(top + 1)
			looked.Cut(n)
			raw.Cut(n)
		}
		if !slices.Equal(looked.Cells(), raw.Cells()) || looked.Free() != raw.Free() {
			t.Fatal(looked.Cells(), raw.Cells())
		}
		for i := range looked.Top() {
			if c, ok := looked.Get(i); !ok || raw.At(i) != c {
				t.Fatal(i, c)
			}
		}
	}
}

// P2.3: who changes an answer, or its spare room, changes nothing else.
func TestCellsAreNew(t *testing.T) {
	a := of(t, 10, 8, 16, 24)
	first, second := a.Cells(), a.Cells()
	first[0] = 80
	first = append(first, 88)
	first[1] = 96
	holds(t, a, 10, 8, 16, 24)
	if !slices.Equal(second, []cell.Cell{8, 16, 24}) {
		t.Error(second)
	}
	if !a.Push(32) || !slices.Equal(first, []cell.Cell{80, 96, 24, 88}) {
		t.Error(first)
	}
	holds(t, a, 10, 8, 16, 24, 32)
}

// P2.3: an answer's spare room isn't the row's, where cells were cut off.
func TestSpareRoomIsNew(t *testing.T) {
	for n := range 4 {
		a := of(t, 10, 8, 16, 24, 32)
		a.Cut(n)
		spare := a.Cells()
		_ = append(spare, 80, 88, 96)
		for c := cell.Cell(40); a.Top() < 4; c += 8 {
			a.Push(c)
		}
		_ = append(spare, 80, 88, 96)
		want := slices.Concat([]cell.Cell{8, 16, 24, 32}[:n], []cell.Cell{40, 48, 56, 64}[:4-n])
		holds(t, a, 10, want...)
	}
}

// P2.3: an answer stays as it was, whatever is done to the row.
func TestAnswersStay(t *testing.T) {
	a := of(t, 10, 8, 16, 24)
	r := Raw{Area: a}
	before := a.Cells()
	a.Set(0, 32)
	r.Put(1, 40)
	a.Cut(2)
	a.Push(48)
	r.Add(56)
	if !slices.Equal(before, []cell.Cell{8, 16, 24}) {
		t.Error(before)
	}
	holds(t, a, 10, 32, 40, 48, 56)
}

// P2.3: two Areas share nothing.
func TestAreasAreNew(t *testing.T) {
	a, b := of(t, 3, 8, 16), of(t, 3, 24, 32)
	a.Set(0, 40)
	a.Push(48)
	Raw{Area: a}.Put(1, 56)
	holds(t, a, 3, 40, 56, 48)
	holds(t, b, 3, 24, 32)
}
