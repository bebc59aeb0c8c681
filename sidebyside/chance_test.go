package sidebyside

import (
	"math/rand"
	"slices"
	"strconv"
	"strings"
	"testing"

	"resolvent/api"
	"resolvent/asm"
	"resolvent/machine"
	"resolvent/obj"
	"resolvent/verify"
)

// author writes a program by chance, which can be trusted: it knows what is set.
type author struct {
	r      *rand.Rand
	lines  []string
	preds  []obj.Pred
	labels int
	arity  int
	x      [16]bool
	env    int // -1: there is none
	y      [16]int
	neck   bool
}

func (a *author) say(words ...string) { a.lines = append(a.lines, strings.Join(words, " ")) }

func (a *author) chance(of int) bool { return a.r.Intn(of) == 0 }

// label answers a new one.
func (a *author) label() string {
	a.labels++
	return "@" + strconv.Itoa(a.labels-1)
}

func regX(k int) string { return "X" + strconv.Itoa(k) }

func regY(k int) string { return "Y" + strconv.Itoa(k) }

func (a *author) atom() string { return string("abc"[a.r.Intn(3)]) }

// fun answers a Fun, and its arity.
func (a *author) fun() (string, int) {
	l := []string{"f/1", "f/2", "g/2", "f/1", "f/2", "h/8"}
	f := l[a.r.Intn(len(l))]
	return f, int(f[2] - '0')
}

// someX is any register; most are among the first ones.
func (a *author) someX() int {
	if a.chance(8) {
		return a.r.Intn(16)
	}
	return a.r.Intn(5)
}

// setX answers a register that is set (-1: there is none).
func (a *author) setX() int {
	for range 20 {
		if k := a.someX(); a.x[k] {
			return k
		}
	}
	return slices.Index(a.x[:], true)
}

// placeOf answers a place of the environment that has this (-1: there is none).
func (a *author) placeOf(has int) int {
	var l []int
	for k := range a.env {
		if a.y[k] == has {
			l = append(l, k)
		}
	}
	if len(l) == 0 {
		return -1
	}
	return l[a.r.Intn(len(l))]
}

// target answers a Reg that may be, which is a Term then.
func (a *author) target() string {
	if y := a.placeOf(verify.Unset); y >= 0 && a.chance(2) {
		a.y[y] = verify.Term
		return regY(y)
	}
	k := a.someX()
	a.x[k] = true
	return regX(k)
}

// source answers a Reg that is a Term (empty: there is none).
func (a *author) source() string {
	if y := a.placeOf(verify.Term); y >= 0 && a.chance(2) {
		return regY(y)
	}
	if x := a.setX(); x >= 0 {
		return regX(x)
	}
	if y := a.placeOf(verify.Term); y >= 0 {
		return regY(y)
	}
	return ""
}

func (a *author) parts(n int) {
	for n > 0 {
		switch s := a.source(); a.r.Intn(5) {
		case 0, 1:
			a.say("univar", a.target())
			n--
		case 2:
			if s != "" {
				a.say("unival", s)
				n--
			}
		case 3:
			a.say("unicon", a.atom())
			n--
		case 4:
			k := 1 + a.r.Intn(n)
			a.say("univoid", strconv.Itoa(k))
			n -= k
		}
	}
}

// look writes what looks at a register, or goes apart and comes together.
func (a *author) look() {
	k, s := a.setX(), a.source()
	if k < 0 {
		return
	}
	switch a.r.Intn(8) {
	case 0, 1:
		a.say("getcon", a.atom(), regX(k))
	case 2, 3:
		f, n := a.fun()
		a.say("getstr", f, regX(k))
		a.parts(n)
	case 4:
		a.say("getlis", regX(k))
		a.parts(2)
	case 5:
		a.say("getvar", a.target(), regX(k))
	case 6:
		a.say("getval", s, regX(k))
	case 7:
		a.apart()
	}
}

// apart goes to one of two places, of which the first one goes on to the second.
func (a *author) apart() {
	if !a.x[0] || a.labels > 60 {
		return
	}
	one, two := a.label(), a.label()
	pick := func() string { return []string{one, two, two, "-"}[a.r.Intn(4)] }
	l := []string{"switch", pick(), pick(), pick(), pick()}
	// Both must be come to.
	l[1+a.r.Intn(2)], l[3+a.r.Intn(2)] = one, two
	a.say(l...)
	before := *a
	a.say(one)
	for range a.r.Intn(3) {
		a.put(a.someX())
		a.look()
	}
	a.say(two)
	for k := range a.x {
		a.x[k] = a.x[k] && before.x[k]
		if a.y[k] != before.y[k] {
			a.y[k] = verify.Mixed
		}
	}
	a.neck = a.neck && before.neck
}

// put lets a register have something.
func (a *author) put(k int) {
	s := a.source()
	switch n := a.r.Intn(6); {
	case n == 0:
		a.say("putvar", a.target(), regX(k))
	case n <= 2 && s != "":
		a.say("putval", s, regX(k))
	case n == 3:
		a.say("putcon", a.atom(), regX(k))
	case n == 4:
		f, many := a.fun()
		a.say("putstr", f, regX(k))
		a.x[k] = true
		a.parts(many)
	default:
		a.say("putlis", regX(k))
		a.x[k] = true
		a.parts(2)
	}
	a.x[k] = true
}

// goal puts the arguments of some predicate, and answers it.
func (a *author) goal() string {
	p := a.preds[a.r.Intn(len(a.preds))]
	for k := range p.Arity {
		a.put(k)
	}
	for k := range p.Arity {
		if !a.x[k] {
			panic("an argument isn't put")
		}
	}
	return p.Name + "/" + strconv.Itoa(p.Arity)
}

// fresh is what is known at an entry, and where another way goes on.
func (a *author) fresh() {
	a.x, a.env, a.y, a.neck = [16]bool{}, -1, [16]int{}, true
	for k := range a.arity {
		a.x[k] = true
	}
}

// cuts writes what takes choices away, if it may stand here.
func (a *author) cuts() {
	if a.neck && a.chance(6) {
		a.say("neckcut")
	}
	if y := a.placeOf(verify.Level); y >= 0 && a.chance(2) {
		a.say("cut", regY(y))
	}
	if y := a.placeOf(verify.Unset); y >= 0 && a.neck && a.chance(3) {
		a.say("getlevel", regY(y))
		a.y[y] = verify.Level
	}
}

// hasArgs tells whether a try may stand here.
func (a *author) hasArgs() bool {
	return a.env < 0 && a.neck && !slices.Contains(a.x[:a.arity], false)
}

// clause writes code up to where it goes elsewhere, or is done.
func (a *author) clause(depth int) {
	for range a.r.Intn(4) {
		a.look()
	}
	a.cuts()
	if depth > 0 && a.hasArgs() && a.chance(5) {
		a.chain(2, depth-1)
		return
	}
	for range a.r.Intn(5) / 2 {
		a.body()
	}
	switch a.r.Intn(7) {
	case 0:
		a.say("fail")
	case 1, 2:
		a.say("execute", a.goal())
	default:
		a.say("proceed")
	}
}

// body writes what stands between allocate and deallocate.
func (a *author) body() {
	a.env = []int{0, 1, 2, 3, 4, 16}[a.r.Intn(6)]
	a.say("allocate", strconv.Itoa(a.env))
	a.cuts()
	for range a.r.Intn(3) {
		a.look()
	}
	for range a.r.Intn(4) {
		a.cuts()
		a.say("call", a.goal())
		a.x, a.neck = [16]bool{}, false
	}
	a.cuts()
	for range a.r.Intn(3) {
		a.put(a.someX())
		a.look()
	}
	a.say("deallocate")
	a.env, a.y = -1, [16]int{}
}

// chain writes so many clauses, each another way; some of them are gone to by a switch, too.
func (a *author) chain(n, depth int) {
	heads := []string{a.label()}
	for range n {
		heads = append(heads, a.label())
	}
	if a.x[0] && a.chance(2) {
		l := []string{"switch", heads[0]}
		for range 3 {
			l = append(l, append(heads, "-")[a.r.Intn(n+2)])
		}
		a.say(l...)
		a.say(heads[0])
	}
	other := ""
	for k := range n {
		if other != "" {
			a.say(other)
			a.fresh()
		}
		ahead := other
		other = ""
		if k < n-1 {
			other = a.label()
		}
		switch {
		case ahead == "" && other != "":
			a.say("try", other)
		case other != "":
			a.say("retry", other)
		case ahead != "":
			a.say("trust")
		}
		a.say(heads[k+1])
		if a.chance(3) {
			a.fresh()
		}
		a.clause(depth)
	}
}

// object is one by chance that can be trusted.
func object(t *testing.T, r *rand.Rand) obj.Object {
	t.Helper()
	a := author{r: r}
	for k := range 1 + r.Intn(4) {
		a.preds = append(a.preds, obj.Pred{Name: "p" + strconv.Itoa(k), Arity: []int{0, 1, 1, 2, 2, 3, 8}[r.Intn(7)]})
	}
	for _, p := range a.preds {
		a.arity = p.Arity
		a.say("pred", p.Name+"/"+strconv.Itoa(p.Arity))
		a.fresh()
		a.chain(1+r.Intn(4), 1)
	}
	o, e, at := asm.Program(a.lines...)
	if e != api.OK {
		t.Fatal(a.lines, e.Word(), at)
	}
	if _, e, at := verify.Check(o); e != api.OK {
		t.Fatal(a.lines, e.Word(), at, asm.Lines(o)[:at])
	}
	return o
}

// turned is the object with something in its code turned, if that can be trusted, else as it was.
func turned(r *rand.Rand, o obj.Object) obj.Object {
	x := copied(o)
	n := r.Intn(len(x.Code))
	switch r.Intn(4) {
	case 0:
		k := r.Intn(4)
		x.Code[n].A[k] = max(0, x.Code[n].A[k]+1-r.Intn(3))
	case 1:
		x.Code[n].Op = r.Intn(27)
	case 2:
		m := r.Intn(len(x.Code))
		x.Code[n], x.Code[m] = x.Code[m], x.Code[n]
	case 3:
		x.Code[n] = x.Code[r.Intn(len(x.Code))]
	}
	if _, e, _ := verify.Check(x); e != api.OK {
		return o
	}
	return x
}

// rooms are large ones, and such as are soon full.
func someRoom(r *rand.Rand) machine.Room {
	room := large
	if r.Intn(3) == 0 {
		room.Cells = r.Intn(40)
	}
	if r.Intn(3) == 0 {
		room.Words = r.Intn(40)
	}
	if r.Intn(3) == 0 {
		room.Choices = r.Intn(6)
	}
	return room
}

// through goes so many steps, and asks for another answer at each one.
func (s *side) through(steps int) {
	s.t.Helper()
	for range steps {
		switch s.w.out {
		case machine.Running:
			s.step()
		case machine.Success:
			s.again()
		default:
			return
		}
	}
}

// ways are all that instructions may do, and where it may be full. (Behind a call no choices are needed, as a try may not stand there.)
var ways = []string{
	"fail", "getvar", "getval one", "getval other", "getcon variable", "getcon same", "getcon another", "getcon other kind",
	"getstr write", "getstr read", "getstr another", "getstr other kind", "getlis write", "getlis read", "getlis other kind",
	"univar write", "univar read", "unival write", "unival read one", "unival read other", "unicon write", "unicon read variable", "unicon read same", "unicon read another", "unicon read other kind", "univoid write", "univoid read",
	"putvar", "putval", "putcon", "putstr write", "putlis write", "allocate first", "allocate on another", "allocate behind a choice's", "deallocate", "call", "execute", "proceed done", "proceed on",
	"try", "retry", "trust", "neckcut none", "neckcut one", "neckcut more", "getlevel", "cut none", "cut one", "cut more",
	"switch variable", "switch con", "switch lis", "switch str", "switch variable nowhere", "switch con nowhere", "switch lis nowhere", "switch str nowhere",
	"fails at last", "fails to a choice", "full arguments",
	"full cells beginning", "full words beginning", "full choices beginning", "full cells entry", "full words entry", "full choices entry", "full cells behind a call", "full words behind a call", "full cells other way", "full words other way", "full choices other way",
}

// P2, P3, P7, P12.1, P12.2, P13.1, P13.2: programs by chance go as the model by the document's words, each instruction each way, whichever predicate is asked and whatever room there is.
func TestByChance(t *testing.T) {
	r := rand.New(rand.NewSource(31))
	seen := map[string]int{}
	for range 1500 {
		o := object(t, r)
		if r.Intn(2) == 0 {
			for range 30 {
				o = turned(r, o)
			}
		}
		for pred := range o.Preds {
			begin(t, o, pred, someRoom(r), seen).through(150)
		}
	}
	for _, way := range ways {
		if seen[way] < 5 {
			t.Error(way, seen[way])
		}
	}
}
