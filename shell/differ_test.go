package shell

import "testing"

// unlike is a Shell whose machines are of two objects, each of clauses. No lines make one, as layer 13 is as layer 12 is, so its fields are set here.
func unlike(t *testing.T, looking, trusting string, more ...string) *Shell {
	t.Helper()
	shells := [2]*Shell{New(), New()}
	for k, clause := range []string{looking, trusting} {
		for _, line := range append([]string{"clause " + clause}, append(more, "compile", "ask p/1 9 9 9")...) {
			if got := shells[k].Do(line); got != "ok" {
				t.Fatalf("%q: %q", line, got)
			}
		}
	}
	shells[0].trusting = shells[1].trusting
	return shells[0]
}

// P15.1: differ, where outcomes, or Snaps, aren't the same, and only there.
func TestDiffer(t *testing.T) {
	for _, c := range []struct {
		looking, trusting string
		more              []string
		line, want        string
	}{
		{"p(a).", "p(a).", nil, "step 1", "running"},
		{"p(a).", "p(a).", nil, "step 2", "success"},
		// Outcomes.
		{"p(a) :- fail.", "p(a).", nil, "step 9", "differ"},
		{"p(a).", "p(a) :- fail.", nil, "step 9", "differ"},
		{"p(f(X0,X0,X0,X0,X0,X0,X0,X0)).", "p(a).", nil, "step 0", "differ"},
		// Snaps alone.
		{"p(a).", "p([a|a]).", nil, "step 9", "differ"},
		{"p(a).", "p([a|a]).", nil, "step 1", "differ"},
		{"p(a).", "p([a|a]).", nil, "step 0", "running"},
		// Whether there may be another answer.
		{"p(a).", "p(a).", []string{"clause p(b)."}, "again", "yes"},
		{"p(a) :- cut.", "p(a).", []string{"clause p(b)."}, "again", "differ"},
		{"p(a).", "p(a) :- cut.", []string{"clause p(b)."}, "again", "differ"},
		// Snaps alone: the place of the other way.
		{"p([a|a]).", "p(a).", []string{"clause p(b)."}, "again", "differ"},
		{"p(a).", "p(a) :- cut.", nil, "again", "differ"},
		{"p(a).", "p([a|a]).", nil, "again", "differ"},
	} {
		s := unlike(t, c.looking, c.trusting, c.more...)
		if c.line == "again" {
			s.looking.Run(9)
			s.trusting.Run(9)
		}
		if got := s.Do(c.line); got != c.want {
			t.Errorf("%+v: %q", c, got)
		}
	}
}

// P15.1: read and state tell of the machines, and hold nothing against each other.
func TestDifferIsNotAsked(t *testing.T) {
	s := unlike(t, "p(a).", "p(f(b)).")
	s.looking.Run(9)
	s.trusting.Run(9)
	if got := s.Do("read 0"); got != "a" {
		t.Error(got)
	}
	if got := s.Do("step 0"); got != "differ" {
		t.Error(got)
	}
}
