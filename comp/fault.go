package comp

import (
	"slices"

	"resolvent/api"
	"resolvent/term"
)

const (
	// mostClauses is how many there may be, so that there are labels enough.
	mostClauses = 1000
	// mostWithin is how many Str and Lis may stand within an Arg: each takes a register behind those of the Args.
	mostWithin = api.MaxX - api.MaxArity
)

// fault answers what is wrong with clauses, and in which one.
func fault(l []Clause) (api.Errno, int) {
	if at := slices.IndexFunc(l, func(c Clause) bool { return !Right(c) }); at >= 0 {
		return api.ErrForm, at
	}
	if at := slices.IndexFunc(l, tooGreat); at >= 0 {
		return api.ErrFull, at
	}
	heads := map[key]bool{}
	for _, c := range l {
		heads[keyOf(c.Head)] = true
	}
	unknown := func(goal term.Term) bool { return calls(goal) && !heads[keyOf(goal)] }
	if at := slices.IndexFunc(l, func(c Clause) bool { return slices.ContainsFunc(c.Body, unknown) }); at >= 0 {
		return api.ErrUnknown, at
	}
	if len(l) > mostClauses {
		return api.ErrFull, -1
	}
	return api.OK, -1
}

// tooGreat tells whether an Arg of a clause has more within it than there are registers for.
func tooGreat(c Clause) bool {
	return anyTooGreat(c.Head) || slices.ContainsFunc(c.Body, anyTooGreat)
}

func anyTooGreat(goal term.Term) bool {
	return slices.ContainsFunc(goal.Args, func(arg term.Term) bool { return within(arg) > mostWithin })
}

// within is how many Str and Lis stand beneath the top of a term.
func within(t term.Term) int {
	n := 0
	for _, part := range t.Args {
		if hasParts(part) {
			n += 1 + within(part)
		}
	}
	return n
}

// hasParts tells whether it is a Str or a Lis.
func hasParts(t term.Term) bool { return t.Kind == term.Str || t.Kind == term.Lis }
