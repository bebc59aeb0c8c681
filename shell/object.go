package shell

import (
	"strconv"
	"strings"

	"resolvent/api"
	"resolvent/comp"
	"resolvent/crc"
	"resolvent/obj"
	"resolvent/verify"
)

// takeClause lays a clause behind the others. Its names are parts of the text that it is read from, so that is a copy: a line isn't kept.
func (s *Shell) takeClause(text string) string {
	c, e := comp.Parse(strings.Clone(text))
	if e == api.OK {
		s.clauses = append(s.clauses, c)
	}
	return e.Word()
}

// takeLine lays a line behind the others. Whether it is one of layer 9 is told where all are made an object.
func (s *Shell) takeLine(text string) string {
	s.lines = append(s.lines, strings.Clone(text))
	return api.OK.Word()
}

// take takes the object that was made, or tells what was wrong, and where.
func (s *Shell) take(o obj.Object, e api.Errno, at int) string {
	if e != api.OK {
		return placed(e, at)
	}
	s.object = &o
	return e.Word()
}

// check tells whether the object can be trusted.
func (s *Shell) check() string {
	if s.object == nil {
		return noObject
	}
	_, e, at := verify.Check(*s.object)
	if e == api.ErrVerify {
		return placed(e, at)
	}
	return e.Word()
}

// size tells of the object's bytes. There are some, as layer 8 has nothing wrong with what layers 9 and 14 make.
func (s *Shell) size() string {
	if s.object == nil {
		return noObject
	}
	b, _ := obj.Encode(*s.object)
	return strconv.Itoa(len(b)) + blank + strconv.FormatUint(uint64(crc.Sum(b)), 10)
}

// placed is an error's word and where it is.
func placed(e api.Errno, at int) string { return e.Word() + blank + strconv.Itoa(at) }
