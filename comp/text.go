package comp

import (
	"strings"

	"resolvent/api"
	"resolvent/term"
)

// What stands in a clause's text beside its terms, in none of which there is a blank or a full stop.
const (
	beforeBody = " :- "
	between    = ", "
	end        = "."
)

// Text is the clause in words.
func Text(c Clause) string {
	var b strings.Builder
	b.WriteString(term.Text(c.Head))
	ahead := beforeBody
	for _, goal := range c.Body {
		b.WriteString(ahead)
		b.WriteString(term.Text(goal))
		ahead = between
	}
	b.WriteString(end)
	return b.String()
}

// Parse answers the clause of which s is the Text.
func Parse(s string) (Clause, api.Errno) {
	r := reader{rest: s}
	c, ok := r.clause()
	if !ok || r.rest != "" || !Right(c) {
		return Clause{}, api.ErrWord
	}
	return c, api.OK
}

// mostNested is how many parts may be nested in one another where a text is read. The document promises nothing of more than half as many; without an end a text of brackets alone could take all of the stack, which no call can catch.
const mostNested = 1 << 17

// reader goes through a text from left to right, and never back. It goes through brackets itself, and leaves only the words within to layer 3, as a clause's text has no greatest length, and layer 3 reads none that is long. Whether what was read is Right, is looked at behind.
type reader struct {
	rest   string
	nested int
}

// skip goes past s, if it is the next.
func (r *reader) skip(s string) bool {
	rest, is := strings.CutPrefix(r.rest, s)
	r.rest = rest
	return is
}

// word goes past all up to the next byte that can't be in a word, and answers it.
func (r *reader) word() string {
	n := strings.IndexAny(r.rest, "()[|],. ")
	if n < 0 {
		n = len(r.rest)
	}
	word := r.rest[:n]
	r.rest = r.rest[n:]
	return word
}

func (r *reader) clause() (Clause, bool) {
	head, ok := r.term()
	c := Clause{Head: head}
	for ahead := beforeBody; ok && r.skip(ahead); ahead = between {
		var goal term.Term
		goal, ok = r.term()
		c.Body = append(c.Body, goal)
	}
	return c, ok && r.skip(end)
}

func (r *reader) term() (term.Term, bool) {
	if r.skip("[") {
		parts, ok := r.parts("|", "]")
		return term.Term{Kind: term.Lis, Args: parts}, ok
	}
	word := r.word()
	if r.skip("(") {
		parts, ok := r.parts(",", ")")
		return term.Term{Kind: term.Str, Name: word, Args: parts}, ok
	}
	t, e := term.Parse(word)
	return t, e == api.OK
}

// parts reads what is behind a bracket, up to the one that ends it.
func (r *reader) parts(apart, closing string) ([]term.Term, bool) {
	if r.nested == mostNested {
		return nil, false
	}
	r.nested++
	var l []term.Term
	for {
		t, ok := r.term()
		if !ok {
			return nil, false
		}
		l = append(l, t)
		if r.skip(closing) {
			r.nested--
			return l, true
		}
		if !r.skip(apart) {
			return nil, false
		}
	}
}
