package term

import (
	"strconv"

	"resolvent/api"
)

// maxText is how many bytes Parse reads at most.
const maxText = 10000

// Text is the term in words.
func Text(t Term) string { return string(appendTerm(nil, t)) }

// appendTerm lays all texts behind one row, so that a deep term's parts aren't copied once for each level.
func appendTerm(b []byte, t Term) []byte {
	switch t.Kind {
	case Var:
		return strconv.AppendInt(append(b, 'X'), int64(t.N), 10)
	case Con:
		return append(b, t.Name...)
	case Str:
		b = appendList(append(append(b, t.Name...), '('), t.Args, ',')
		return append(b, ')')
	case Lis:
		b = appendList(append(b, '['), t.Args, '|')
		return append(b, ']')
	}
	return b
}

func appendList(b []byte, l []Term, between byte) []byte {
	for i, t := range l {
		if i > 0 {
			b = append(b, between)
		}
		b = appendTerm(b, t)
	}
	return b
}

// Parse answers the term of which s is the Text.
func Parse(s string) (Term, api.Errno) {
	if len(s) > maxText {
		return Term{}, api.ErrWord
	}
	r := reader{text: s}
	t, ok := r.term()
	if !ok || r.at != len(s) {
		return Term{}, api.ErrWord
	}
	return t, api.OK
}

// reader goes through a text from left to right, and never back.
type reader struct {
	text string
	at   int
}

// skip goes past the byte c, if it is the next.
func (r *reader) skip(c byte) bool {
	if r.at == len(r.text) || r.text[r.at] != c {
		return false
	}
	r.at++
	return true
}

// while goes past all bytes that may be, and answers them.
func (r *reader) while(may func(c byte) bool) string {
	from := r.at
	for r.at < len(r.text) && may(r.text[r.at]) {
		r.at++
	}
	return r.text[from:r.at]
}

func (r *reader) term() (Term, bool) {
	switch {
	case r.skip('X'):
		return r.variable()
	case r.skip('['):
		return r.list()
	}
	return r.named()
}

// variable reads what is behind the X. As a number has one text alone, noughts ahead aren't read.
func (r *reader) variable() (Term, bool) {
	digits := r.while(digit)
	n, err := strconv.Atoi(digits)
	if err != nil || n > maxVar || strconv.Itoa(n) != digits {
		return Term{}, false
	}
	return Term{Kind: Var, N: n}, true
}

// list reads what is behind the square bracket.
func (r *reader) list() (Term, bool) {
	first, ok := r.term()
	if !ok || !r.skip('|') {
		return Term{}, false
	}
	rest, ok := r.term()
	if !ok || !r.skip(']') {
		return Term{}, false
	}
	return Term{Kind: Lis, Args: []Term{first, rest}}, true
}

func (r *reader) named() (Term, bool) {
	name := r.while(func(c byte) bool { return letter(c) || digit(c) })
	if !Name(name) {
		return Term{}, false
	}
	if !r.skip('(') {
		return Term{Kind: Con, Name: name}, true
	}
	args, ok := r.args()
	if !ok {
		return Term{}, false
	}
	return Term{Kind: Str, Name: name, Args: args}, true
}

// args reads what is behind the round bracket.
func (r *reader) args() ([]Term, bool) {
	var l []Term
	for len(l) < api.MaxArity {
		t, ok := r.term()
		if !ok {
			return nil, false
		}
		l = append(l, t)
		if r.skip(')') {
			return l, true
		}
		if !r.skip(',') {
			return nil, false
		}
	}
	return nil, false
}
