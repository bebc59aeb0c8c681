package verify

import "resolvent/api"

// first answers the first n registers.
func first(n int) uint32 { return 1<<n - 1 }

// atEntry is what is known at the Entry of a predicate of an arity.
func atEntry(arity int) State { return State{X: first(arity), Env: -1, Neck: true} }

// atOtherWay is what is known where a choice of a predicate of an arity goes on.
func atOtherWay(arity int) State {
	s := atEntry(arity)
	s.Alt = true
	return s
}

// fits tells whether both may come together.
func (s State) fits(t State) bool { return s.Env == t.Env && s.Left == t.Left && s.Alt == t.Alt }

// with answers what is known where both come together, which fit.
func (s State) with(t State) State {
	s.X &= t.X
	s.Neck = s.Neck && t.Neck
	for y := range s.Y {
		if s.Y[y] != t.Y[y] {
			s.Y[y] = Mixed
		}
	}
	return s
}

// hasFirst tells whether the first n registers are set.
func (s State) hasFirst(n int) bool { return s.X&first(n) == first(n) }

// isSet tells whether a register is.
func (s State) isSet(x int) bool { return s.X>>x&1 == 1 }

// has answers what a place of the environment has (-1: there is no such place).
func (s State) has(y int) int {
	if y >= s.Env {
		return -1
	}
	return s.Y[y]
}

// isTerm tells whether a Reg is a Term.
func (s State) isTerm(r int) bool {
	if r < api.MaxX {
		return s.isSet(r)
	}
	return s.has(r-api.MaxX) == Term
}

// mayBe tells whether a Reg may become a Term.
func (s State) mayBe(r int) bool { return r < api.MaxX || s.has(r-api.MaxX) == Unset }

// become has a Reg, which may be, be a Term.
func (s *State) become(r int) {
	if r < api.MaxX {
		s.X |= 1 << r
	} else {
		s.Y[r-api.MaxX] = Term
	}
}
