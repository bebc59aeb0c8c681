package heap

import (
	"maps"
	"math/rand"
	"slices"
	"testing"

	"resolvent/api"
	"resolvent/cell"
	"resolvent/term"
)

// model is a heap that goes by the document's words, one after the other, and by copies.
type model struct {
	room   int
	cells  []cell.Cell
	names  Names
	places map[int]int
	marks  []model // how all was when they were made
	old    []int   // how many cells there were when they were made
	since  []int   // how long the trail was
	trail  []int
}

func (m *model) clone() model {
	c := *m
	c.cells, c.places = slices.Clone(m.cells), maps.Clone(m.places)
	c.marks, c.old, c.since, c.trail = slices.Clone(m.marks), slices.Clone(m.old), slices.Clone(m.since), slices.Clone(m.trail)
	c.names = Names{slices.Clone(m.names.Atoms), slices.Clone(m.names.Funs)}
	return c
}

func (m *model) push(c cell.Cell) bool {
	if len(m.cells) == m.room || !c.Right() {
		return false
	}
	m.cells = append(m.cells, c)
	return true
}

func (m *model) atom(s string) int {
	if !slices.Contains(m.names.Atoms, s) {
		m.names.Atoms = append(m.names.Atoms, s)
	}
	return slices.Index(m.names.Atoms, s)
}

func (m *model) fun(f Fun) int {
	if !slices.Contains(m.names.Funs, f) {
		m.names.Funs = append(m.names.Funs, f)
	}
	return slices.Index(m.names.Funs, f)
}

func (m *model) build(t term.Term) (cell.Cell, bool) {
	before := m.clone()
	c, ok := m.lay(t)
	if !ok {
		*m = before
		return 0, false
	}
	return c, true
}

func (m *model) lay(t term.Term) (cell.Cell, bool) {
	if t.Kind == term.Var {
		at, there := m.places[t.N]
		if !there {
			at = len(m.cells)
			m.places[t.N] = at
			return cell.Make(cell.Ref, at), m.push(cell.Make(cell.Ref, at))
		}
		return cell.Make(cell.Ref, at), true
	}
	if t.Kind == term.Con {
		return cell.Make(cell.Con, m.atom(t.Name)), true
	}
	var l []cell.Cell
	for _, a := range t.Args {
		c, ok := m.lay(a)
		if !ok {
			return 0, false
		}
		l = append(l, c)
	}
	c := cell.Make(cell.Lis, len(m.cells))
	if t.Kind == term.Str {
		c = cell.Make(cell.Str, len(m.cells))
		l = append([]cell.Cell{cell.Make(cell.Fun, m.fun(Fun{t.Name, len(t.Args)}))}, l...)
	}
	for _, x := range l {
		if !m.push(x) {
			return 0, false
		}
	}
	return c, true
}

func (m *model) deref(c cell.Cell) cell.Cell {
	for c.Kind() == cell.Ref && m.cells[c.Number()] != c {
		c = m.cells[c.Number()]
	}
	return c
}

func (m *model) isVar(at int) bool {
	return at >= 0 && at < len(m.cells) && m.cells[at] == cell.Make(cell.Ref, at)
}

func (m *model) bind(at int, c cell.Cell) bool {
	if !m.isVar(at) || !c.Right() {
		return false
	}
	m.cells[at] = c
	if len(m.old) > 0 && at < m.old[len(m.old)-1] {
		m.trail = append(m.trail, at)
	}
	return true
}

func (m *model) unify(a, b cell.Cell) (bool, api.Errno) {
	pairs := [][2]cell.Cell{{a, b}}
	for gone := 0; len(pairs) > 0; gone++ {
		if gone == 4096 {
			return false, api.ErrFull
		}
		x, y := m.deref(pairs[0][0]), m.deref(pairs[0][1])
		pairs = pairs[1:]
		from, n := 0, 0
		switch {
		case x == y:
		case x.Kind() == cell.Ref && y.Kind() == cell.Ref:
			m.bind(max(x.Number(), y.Number()), cell.Make(cell.Ref, min(x.Number(), y.Number())))
		case x.Kind() == cell.Ref:
			m.bind(x.Number(), y)
		case y.Kind() == cell.Ref:
			m.bind(y.Number(), x)
		case x.Kind() != y.Kind() || x.Kind() == cell.Con || x.Kind() == cell.Str && m.cells[x.Number()] != m.cells[y.Number()]:
			return false, api.OK
		case x.Kind() == cell.Str:
			from, n = 1, m.names.Funs[m.cells[x.Number()].Number()].Arity
		default:
			n = 2
		}
		var parts [][2]cell.Cell
		for i := from; i < from+n; i++ {
			parts = append(parts, [2]cell.Cell{m.cells[x.Number()+i], m.cells[y.Number()+i]})
		}
		pairs = append(parts, pairs...)
	}
	return true, api.OK
}

func (m *model) mark() {
	before := m.clone()
	m.marks = append(m.marks, before)
	m.old, m.since = append(m.old, len(m.cells)), append(m.since, len(m.trail))
}

// undo goes back to how all was, whatever came to be since (P5.4).
func (m *model) undo() bool {
	if len(m.marks) == 0 {
		return false
	}
	was := m.marks[len(m.marks)-1].clone()
	m.cells, m.places, m.trail = was.cells, was.places, was.trail
	return true
}

func (m *model) drop() bool {
	if len(m.marks) == 0 {
		return false
	}
	m.marks, m.old, m.since = m.marks[:len(m.marks)-1], m.old[:len(m.old)-1], m.since[:len(m.since)-1]
	return true
}

// read answers false where a term is within itself, or has too many parts.
func (m *model) read(c cell.Cell, fuel *int) (term.Term, bool) {
	*fuel--
	if *fuel < 0 {
		return term.Term{}, false
	}
	c = m.deref(c)
	t, from, n := term.Term{}, c.Number(), 2
	switch c.Kind() {
	case cell.Ref:
		return term.Term{Kind: term.Var, N: c.Number()}, true
	case cell.Con:
		return term.Term{Kind: term.Con, Name: m.names.Atoms[c.Number()]}, true
	case cell.Str:
		f := m.names.Funs[m.cells[c.Number()].Number()]
		t, from, n = term.Term{Kind: term.Str, Name: f.Name}, from+1, f.Arity
	default:
		t = term.Term{Kind: term.Lis}
	}
	for i := range n {
		x, ok := m.read(m.cells[from+i], fuel)
		if !ok {
			return term.Term{}, false
		}
		t.Args = append(t.Args, x)
	}
	return t, true
}

// like tells where a heap isn't as the model.
func (m *model) like(t *testing.T, h *Heap) {
	t.Helper()
	n := h.Names()
	if !slices.Equal(h.Cells(), m.cells) || !slices.Equal(h.Trail(), m.trail) || h.Marks() != len(m.marks) || !slices.Equal(n.Atoms, m.names.Atoms) || !slices.Equal(n.Funs, m.names.Funs) {
		t.Fatal(texts(h.Cells()), texts(m.cells), h.Trail(), m.trail, h.Marks(), len(m.marks), n, m.names)
	}
}

// P5.1, P5.4: many calls in a row, of all kinds, answer as the document's words; behind Undo all is as it was.
func TestAsWritten(t *testing.T) {
	count := map[string]int{}
	for seed := range 1500 {
		r := rand.New(rand.NewSource(int64(seed)))
		room := []int{0, 3, 10, 40, 200}[seed%5]
		h, m := fresh(t, room), model{room: room, places: map[int]int{}}
		var roots []cell.Cell
		for range 120 {
			roots = step(t, r, h, &m, roots, count)
			m.like(t, h)
		}
	}
	for _, what := range []string{"built", "full", "true", "false", "undone", "no mark", "read", "not read", "bound", "not bound", "trailed"} {
		if count[what] < 100 {
			t.Error(what, count[what])
		}
	}
}

// step does one call on both, and answers the cells that mean something afterwards.
func step(t *testing.T, r *rand.Rand, h *Heap, m *model, roots []cell.Cell, count map[string]int) []cell.Cell {
	some := func() cell.Cell { return roots[r.Intn(len(roots))] }
	k := r.Intn(12)
	if len(roots) == 0 {
		k %= 4
	}
	switch k {
	case 0, 1, 2:
		return stepBuild(t, r, h, m, roots, count)
	case 3:
		at := cell.Make(cell.Ref, len(m.cells))
		ok := h.Push(at)
		if ok != m.push(at) {
			t.Fatal("push", ok)
		}
		if ok {
			roots = append(roots, at)
		}
	case 4, 5, 6:
		a, b := some(), some()
		one, e := h.Unify(a, b)
		want, we := m.unify(a, b)
		if one != want || e != we {
			t.Fatal("unify", a.Text(), b.Text(), one, e, want, we)
		}
		count[map[bool]string{true: "true", false: "false"}[one]]++
		count["trailed"] += len(m.trail)
	case 7:
		h.Mark()
		m.mark()
	case 8:
		ok := h.Undo()
		if ok != m.undo() {
			t.Fatal("undo", ok)
		}
		count[map[bool]string{true: "undone", false: "no mark"}[ok]]++
		roots = slices.DeleteFunc(slices.Clone(roots), func(c cell.Cell) bool { return !m.means(c) })
	case 9:
		if ok := h.Drop(); ok != m.drop() {
			t.Fatal("drop", ok)
		}
	case 10:
		at, c := r.Intn(len(m.cells)+2)-1, m.deref(some())
		if c.Kind() == cell.Ref && at <= c.Number() {
			break // a ring of Refs means nothing
		}
		ok := h.Bind(at, c)
		if ok != m.bind(at, c) {
			t.Fatal("bind", ok, at, c.Text())
		}
		count[map[bool]string{true: "bound", false: "not bound"}[ok]]++
	case 11:
		stepRead(t, h, m, some(), count)
	}
	return roots
}

func stepBuild(t *testing.T, r *rand.Rand, h *Heap, m *model, roots []cell.Cell, count map[string]int) []cell.Cell {
	x := parse(t, random(r, r.Intn(4), 5))
	c, ok := h.Build(x)
	want, wok := m.build(x)
	if c != want || ok != wok {
		t.Fatal("build", term.Text(x), c.Text(), ok, want.Text(), wok)
	}
	if ok {
		count["built"]++
		return append(roots, c)
	}
	// Names alone may change: they keep their numbers.
	count["full"]++
	n := h.Names()
	if !slices.Equal(n.Atoms[:len(m.names.Atoms)], m.names.Atoms) || !slices.Equal(n.Funs[:len(m.names.Funs)], m.names.Funs) {
		t.Fatal(n, m.names)
	}
	m.names = n
	return roots
}

func stepRead(t *testing.T, h *Heap, m *model, c cell.Cell, count map[string]int) {
	if d, ok := h.Deref(c); !ok || d != m.deref(c) {
		t.Fatal("deref", c.Text(), d.Text(), ok)
	}
	fuel := 10000
	x, e := h.Read(c)
	want, ok := m.read(c, &fuel)
	if ok != (e == api.OK) || ok && !term.Same(x, want) {
		t.Fatal("read", term.Text(x), e, term.Text(want))
	}
	count[map[bool]string{true: "read", false: "not read"}[ok]]++
}

// means tells whether a cell's parts are there.
func (m *model) means(c cell.Cell) bool {
	return c.Kind() == cell.Con || c.Number() < len(m.cells)
}
