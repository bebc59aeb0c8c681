package comp

import (
	"slices"
	"strconv"
	"strings"

	"resolvent/term"
)

// key is what a predicate is known by: a name, and how many Args.
type key struct {
	name  string
	arity int
}

func keyOf(goal term.Term) key { return key{name: goal.Name, arity: len(goal.Args)} }

// predicates are the clauses of each predicate, by their first ones.
func predicates(l []Clause) [][]Clause {
	var rows [][]Clause
	places := map[key]int{}
	for _, c := range l {
		k := keyOf(c.Head)
		at, there := places[k]
		if !there {
			at = len(rows)
			places[k] = at
			rows = append(rows, nil)
		}
		rows[at] = append(rows[at], c)
	}
	return rows
}

// The words of what lines name.
func nameWord(t term.Term) string { return t.Name + "/" + strconv.Itoa(len(t.Args)) }

func labelWord(n int) string { return "@" + strconv.Itoa(n) }

func wordX(n int) string { return "X" + strconv.Itoa(n) }

func wordY(n int) string { return "Y" + strconv.Itoa(n) }

// writer writes lines, one behind the other.
type writer struct {
	lines  []string
	labels int // how many there are
}

// say writes a line of these words.
func (w *writer) say(words ...string) { w.lines = append(w.lines, strings.Join(words, " ")) }

// predicate writes the lines of a predicate's clauses.
func (w *writer) predicate(clauses []Clause) {
	w.say("pred", nameWord(clauses[0].Head))
	last := len(clauses) - 1
	for i, c := range clauses {
		if last > 0 {
			w.way(i == 0, i == last)
		}
		w.clause(c)
	}
}

// way writes what makes a clause one way of several.
func (w *writer) way(first, last bool) {
	turn := "try"
	if !first {
		w.say(labelWord(w.labels - 1))
		turn = "retry"
	}
	if last {
		w.say("trust")
		return
	}
	w.say(turn, labelWord(w.labels))
	w.labels++
}

// clause writes a clause's code.
func (w *writer) clause(c Clause) {
	vars := variables(c)
	s := scribe{writer: w, places: map[int]int{}, met: make([]bool, len(vars)), level: len(vars)}
	for y, n := range vars {
		s.places[n] = y
	}
	size := len(vars)
	if levelled(c.Body) {
		size++
	}
	s.env = size > 0 || slices.ContainsFunc(c.Body, calls)
	if s.env {
		s.say("allocate", strconv.Itoa(size))
	}
	if levelled(c.Body) {
		s.say("getlevel", wordY(s.level))
	}
	s.gotAll(c.Head.Args)
	s.goals(c.Body)
}

// levelled tells whether a cut stands behind a goal that calls: there the machine's own level may be another predicate's.
func levelled(body []term.Term) bool {
	first := slices.IndexFunc(body, calls)
	return first >= 0 && slices.ContainsFunc(body[first:], isCut)
}
