package sidebyside

import (
	"math"
	"testing"

	"resolvent/api"
	"resolvent/fast"
	"resolvent/machine"
)

// rooms are programs, just enough room for them, and how all is behind all steps, with each answer asked for, where Cells, Words or Choices are one less (empty: not told).
func rooms() []struct {
	text string
	room machine.Room
	less [3]string
} {
	type row = struct {
		text string
		room machine.Room
		less [3]string
	}
	return []row{
		// at the beginning
		{"pred p/8, proceed", machine.Room{Cells: 8}, [3]string{"full 0"}},
		{"pred p/1, proceed", machine.Room{Cells: 1}, [3]string{"full 0"}},
		{"pred p/0, proceed", machine.Room{}, [3]string{}},
		{"pred p/1, getstr f/2 X0, univoid 2, proceed", machine.Room{Cells: 4}, [3]string{"full 0; ref 0; X0 ref 0"}},
		{"pred p/1, getlis X0, unicon a, unicon b, proceed", machine.Room{Cells: 3}, [3]string{"full 0; ref 0; X0 ref 0"}},
		{"pred p/2, putvar X2 X2, putstr f/8 X3, univoid 8, fail", machine.Room{Cells: 12}, [3]string{"full 0; ref 0, ref 1; X0 ref 0; X1 ref 1"}},
		{"pred p/0, allocate 0, deallocate, proceed", machine.Room{Words: 3}, [3]string{"", "full 0"}},
		{"pred p/1, allocate 16, getvar Y15 X0, deallocate, proceed", machine.Room{Cells: 1, Words: 19}, [3]string{"full 0", "full 0; ref 0; X0 ref 0"}},
		{"pred p/1, try @1, try @1, fail, @1, trust, fail", machine.Room{Cells: 1, Choices: 2}, [3]string{"full 0", "", "full 0; ref 0; X0 ref 0"}},
		{"pred p/2, switch @1 @2 @3 -, @1, putvar X5 X5, @2, getlis X0, univoid 2, allocate 4, deallocate, @3, try @4, fail, @4, trust, fail", machine.Room{Cells: 5, Words: 7, Choices: 1}, [3]string{"full 0; ref 0, ref 1; X0 ref 0; X1 ref 1", "full 0; ref 0, ref 1; X0 ref 0; X1 ref 1", "full 0; ref 0, ref 1; X0 ref 0; X1 ref 1"}},
		// at an entry, by call and by execute
		{"pred p/1, execute q/1, pred q/1, getlis X0, univoid 2, proceed", machine.Room{Cells: 3}, [3]string{"full 1; ref 0; X0 ref 0"}},
		{"pred p/0, allocate 1, call q/0, deallocate, proceed, pred q/0, putvar X0 X0, allocate 2, deallocate, try @1, proceed, @1, trust, proceed", machine.Room{Cells: 1, Words: 9, Choices: 1}, [3]string{"full 4; cp 2; e 0", "full 4; cp 2; e 0", "full 4; cp 2; e 0"}},
		{"pred p/1, try @1, putcon a X0, execute q/1, @1, trust, proceed, pred q/1, try @2, fail, @2, trust, fail", machine.Room{Cells: 1, Choices: 2}, [3]string{"full 0", "", "full 5; b 1; b0 1; ref 0; X0 con 0"}},
		// behind a call
		{"pred p/0, allocate 0, call q/0, putvar X0 X0, deallocate, allocate 1, deallocate, proceed, pred q/0, proceed", machine.Room{Cells: 1, Words: 7}, [3]string{"full 2; cp 2; e 0", "full 2; cp 2; e 0"}},
		// the next environment stands behind what a choice kept
		{"pred p/0, allocate 0, call q/0, deallocate, allocate 1, deallocate, fail, pred q/0, allocate 5, call r/0, deallocate, proceed, pred r/0, try @1, proceed, @1, trust, proceed", machine.Room{Words: 15, Choices: 1}, [3]string{"", "full 2; cp 2; e 0; b 1", "full 10; cp 8; e 3"}},
		// back at a choice
		{"pred p/1, try @1, fail, @1, trust, putvar X1 X1, proceed", machine.Room{Cells: 2, Choices: 1}, [3]string{"full 2; b 1; ref 0; X0 ref 0", "", "full 0; ref 0; X0 ref 0"}},
		{"pred p/1, try @1, getcon a X0, proceed, @1, trust, allocate 3, deallocate, proceed", machine.Room{Cells: 1, Words: 6, Choices: 1}, [3]string{"full 0", "full 3; b 1; ref 0; X0 ref 0", "full 0; ref 0; X0 ref 0"}},
		{"pred p/1, try @1, fail, @1, retry @2, putvar X1 X1, fail, @2, trust, putvar X1 X1, putvar X2 X2, proceed", machine.Room{Cells: 3, Choices: 1}, [3]string{"full 5; b 1; ref 0; X0 ref 0", "", "full 0; ref 0; X0 ref 0"}},
		// where trust takes the choice away, there must be room for another one beside it
		{"pred p/0, try @1, fail, @1, trust, try @2, fail, @2, trust, fail", machine.Room{Choices: 2}, [3]string{"", "", "full 2; b 1"}},
		// what is undone is room again
		{"pred p/1, try @1, getlis X0, univoid 2, fail, @1, retry @2, getstr f/1 X0, unicon a, proceed, @2, trust, getlis X0, univoid 2, proceed", machine.Room{Cells: 3, Choices: 1}, [3]string{"full 0; ref 0; X0 ref 0", "", "full 0; ref 0; X0 ref 0"}},
	}
}

// P12.1, P13.1: just enough room is enough; with one less it is Full, where that is needed.
func TestRooms(t *testing.T) {
	for _, c := range rooms() {
		s := beginText(t, c.text, c.room)
		s.through(100)
		if s.w.out != machine.Failure {
			t.Error(c.text, s.tell())
		}
		for k, want := range c.less {
			less := c.room
			*[]*int{&less.Cells, &less.Words, &less.Choices}[k]--
			if want == "" {
				continue
			}
			s := beginText(t, c.text, less)
			s.through(100)
			if got := s.tell(); got != want {
				t.Errorf("%s, %v:\n%s, should be\n%s", c.text, less, got, want)
			}
			s.stays()
		}
	}
}

// stays holds that one that isn't Running does nothing more.
func (s *side) stays() {
	s.t.Helper()
	was := s.tell()
	out := s.w.out
	if s.m.Step() != out || s.f.Step() != out || s.m.Run(99) != out || s.f.Run(99) != out {
		s.t.Error(s.what, "goes on")
	}
	if out != machine.Success && (s.m.Again() || s.f.Again()) {
		s.t.Error(s.what, "again")
	}
	s.hold()
	if s.tell() != was {
		s.t.Error(s.what, was, s.tell())
	}
}

// P12.1, P13.1: rooms from 0 to 65536 may be, for each of the three, others not.
func TestNoRoom(t *testing.T) {
	o := program(t, "pred p/0, allocate 0, deallocate, proceed")
	for _, n := range []int{0, 1, 65535, 65536, 65537, -1, -65536, 1 << 40, math.MaxInt, math.MinInt} {
		for k := range 3 {
			room := large
			*[]*int{&room.Cells, &room.Words, &room.Choices}[k] = n
			want := api.OK
			if n < 0 || n > 65536 {
				want = api.ErrArg
			}
			m, e := machine.New(o, 0, room)
			f, e2 := fast.New(o, 0, room)
			if e != want || e2 != want || (m == nil) != (want != api.OK) || (f == nil) != (m == nil) {
				t.Error(room, e.Word(), e2.Word(), m == nil, f == nil)
			}
		}
	}
}

// P12.1, P13.1: as much room as there may be is used up to its end.
func TestMostRoom(t *testing.T) {
	most := machine.Room{Cells: 65536, Words: 65536, Choices: 65536}
	for _, c := range []struct {
		text       string
		cells      int // how many there are at the end
		e, choices int
	}{
		{"pred p/1, getlis X0, unicon a, univar X0, execute p/1", 65535, -1, 0},
		{"pred p/0, allocate 0, call p/0, deallocate, proceed", 0, 3 * 21844, 0},
		{"pred p/0, try @1, execute p/0, @1, trust, proceed", 0, -1, 65536},
	} {
		o := program(t, c.text)
		m, e := machine.New(o, 0, most)
		f, e2 := fast.New(o, 0, most)
		if e != api.OK || e2 != api.OK || m.Run(1<<20) != machine.Full || f.Run(1<<20) != machine.Full {
			t.Fatal(c.text, e.Word(), e2.Word())
		}
		s := m.Snap()
		if !machine.Same(s, f.Snap()) || len(s.Cells) != c.cells || s.E != c.e || s.B != c.choices {
			t.Error(c.text, len(s.Cells), s.E, s.B)
		}
	}
}
