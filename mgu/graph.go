package mgu

import (
	"cmp"
	"slices"

	"resolvent/term"
)

// graph is terms as numbered nodes, in which each variable is one node, wherever it stands. So what is bound is shared, and not copied, till an answer is written out.
type graph struct {
	nodes []node
	vars  map[int]int // the nodes of variables, by their numbers
	round int         // of looks for a variable
}

// node is a term's part; its own parts are nodes.
type node struct {
	kind  int
	n     int
	name  string
	parts []int
	as    int // the node that stands for it: itself, till another one does
	seen  int // the last round that came by
}

func newGraph() *graph { return &graph{vars: map[int]int{}} }

func (g *graph) push(n node) int {
	n.as = len(g.nodes)
	g.nodes = append(g.nodes, n)
	return n.as
}

// variable answers the node of a variable, a new one the first time.
func (g *graph) variable(n int) int {
	at, there := g.vars[n]
	if !there {
		at = g.push(node{kind: term.Var, n: n})
		g.vars[n] = at
	}
	return at
}

// add answers the node of a term.
func (g *graph) add(t term.Term) int {
	if t.Kind == term.Var {
		return g.variable(t.N)
	}
	parts := make([]int, len(t.Args))
	for i, part := range t.Args {
		parts[i] = g.add(part)
	}
	return g.push(node{kind: t.Kind, n: t.N, name: t.Name, parts: parts})
}

// find answers the node that stands for one at last, and halves the way there for the next who asks.
func (g *graph) find(i int) int {
	for g.nodes[i].as != i {
		g.nodes[i].as = g.nodes[g.nodes[i].as].as
		i = g.nodes[i].as
	}
	return i
}

// replace lets the node to stand for i.
func (g *graph) replace(i, to int) { g.nodes[i].as = to }

// free tells whether a node for which none stands is a variable.
func (g *graph) free(i int) bool { return g.nodes[i].kind == term.Var }

func (g *graph) clash(l, r int) bool {
	a, b := g.nodes[l], g.nodes[r]
	return a.kind != b.kind || a.name != b.name || len(a.parts) != len(b.parts)
}

// within tells whether the variable v stands within a node. Each node is come by once, however often it is there.
func (g *graph) within(v, at int) bool {
	g.round++
	rest := []int{at}
	for len(rest) > 0 {
		i := g.find(rest[len(rest)-1])
		rest = rest[:len(rest)-1]
		if i == v {
			return true
		}
		if g.nodes[i].seen == g.round {
			continue
		}
		g.nodes[i].seen = g.round
		rest = append(rest, g.nodes[i].parts...)
	}
	return false
}

// blank is a term to be written, and the node it is written from.
type blank struct {
	to   *term.Term
	from int
}

// tree writes out the term of a node. It goes by a stack, as what is bound may lie far deeper than what was given.
func (g *graph) tree(root int) term.Term {
	var out term.Term
	rest := []blank{{&out, root}}
	for len(rest) > 0 {
		next := rest[len(rest)-1]
		rest = rest[:len(rest)-1]
		at := g.find(next.from)
		n := g.nodes[at]
		*next.to = term.Term{Kind: n.kind, N: n.n, Name: n.name}
		if len(n.parts) == 0 {
			continue
		}
		args := make([]term.Term, len(n.parts))
		next.to.Args = args
		for i, part := range n.parts {
			rest = append(rest, blank{&args[i], part})
		}
	}
	return out
}

// subst writes out what is bound.
func (g *graph) subst() Subst {
	var s Subst
	for n, at := range g.vars {
		if g.nodes[at].as != at {
			s = append(s, Pair{n, g.tree(at)})
		}
	}
	slices.SortFunc(s, func(a, b Pair) int { return cmp.Compare(a.N, b.N) })
	return s
}
