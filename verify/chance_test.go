package verify

import (
	"bytes"
	"math/rand"
	"slices"
	"testing"

	"resolvent/api"
	"resolvent/code"
	"resolvent/crc"
	"resolvent/link"
	"resolvent/obj"
)

// holdModel holds all that Check answers against the model; it answers whether the object can be trusted.
func holdModel(t *testing.T, o obj.Object) bool {
	t.Helper()
	r, e, at := Check(o)
	want, wantError, wantAt := modelCheck(o)
	if e != wantError || at != wantAt || !sameReport(r, want) {
		t.Fatalf("%v: %v, %v, %v; should be %v, %v, %v", o, r, e.Word(), at, want, wantError.Word(), wantAt)
	}
	return e == api.OK
}

// P11.1: objects by chance, most of whose code can be trusted, and such in which one thing or two are turned, as the model by the document's words.
func TestByChance(t *testing.T) {
	r := rand.New(rand.NewSource(11))
	right, wrong := 0, 0
	var ops [27]int
	for range 4000 {
		o := someObject(r)
		if holdModel(t, o) {
			right++
			for _, i := range o.Code {
				ops[i.Op]++
			}
		} else {
			wrong++
		}
		x := turned(r, o)
		holdModel(t, x)
		if len(x.Code) > 0 {
			holdModel(t, turned(r, x))
		}
	}
	if right < 500 || wrong < 500 || slices.Min(ops[:]) < 20 {
		t.Error(right, wrong, ops)
	}
}

// P11.1: objects that can be trusted, with one thing turned, and some of them are wrong then.
func TestTurned(t *testing.T) {
	r := rand.New(rand.NewSource(12))
	right, wrong := 0, 0
	for range 700 {
		o := trusted(r)
		for range 10 {
			if holdModel(t, turned(r, o)) {
				right++
			} else {
				wrong++
			}
		}
	}
	if right < 100 || wrong < 100 {
		t.Error(right, wrong)
	}
}

// P11.1: objects in which all is by chance: Check ends, whatever they have.
func TestAnything(t *testing.T) {
	r := rand.New(rand.NewSource(13))
	for range 30000 {
		o := tables()
		for k := range r.Intn(3) {
			o.Preds = append(o.Preds, obj.Pred{Name: "p", Arity: k, Entry: r.Intn(4)})
			if r.Intn(9) == 0 {
				o.Preds[k].Entry = elsewhere
			}
		}
		o.Code = make([]code.Instr, r.Intn(6))
		for n := range o.Code {
			i := someInstr(r, obj.Object{Names: o.Names, Preds: make([]obj.Pred, 2), Code: o.Code}, n)
			if r.Intn(20) == 0 {
				i.Op = r.Intn(40) - 5
			}
			if r.Intn(20) == 0 {
				i.A[r.Intn(4)] = []int{-1, 1 << 40, -1 << 63, 1<<63 - 1, 65535, 1024}[r.Intn(6)]
			}
			o.Code[n] = i
		}
		holdModel(t, o)
	}
}

// allWays are, of each place, what is known there on each way that goes there, one way after the other, without that ways ever come together.
func allWays(o obj.Object) [][]stand {
	found := make([][]stand, len(o.Code))
	var walk func(n int, s stand)
	walk = func(n int, s stand) {
		found[n] = append(found[n], s)
		i := o.Code[n]
		own, _, _ := owner(o, n)
		next := behind(o, i, s)
		if onward(i.Op) {
			walk(n+1, next)
		}
		for _, l := range goneTo(i) {
			if i.Op == opSwitch {
				walk(l, next)
			} else {
				walk(l, beginning(own.Arity, true))
			}
		}
	}
	for _, p := range o.Preds {
		walk(p.Entry, beginning(p.Arity, false))
	}
	return found
}

// P11.1: a State has just what is so on all ways to its place.
func TestAllWays(t *testing.T) {
	r := rand.New(rand.NewSource(14))
	met := 0
	for range 300 {
		o := trusted(r)
		report, _, _ := Check(o)
		for n, ways := range allWays(o) {
			s, fit := together(ways)
			if !fit || s.state() != report.States[n] {
				t.Fatal(o, n, report.States[n], s.state())
			}
			if len(ways) > 1 {
				met++
			}
		}
	}
	if met < 100 {
		t.Error(met)
	}
}

// P11.1, P4: what is encoded and decoded has the same answer.
func TestDecoded(t *testing.T) {
	r := rand.New(rand.NewSource(15))
	for range 500 {
		o := someObject(r)
		b, e := obj.Encode(o)
		x, e2 := obj.Decode(b)
		if e != api.OK || e2 != api.OK {
			t.Fatal(o, e.Word(), e2.Word())
		}
		r1, e1, at1 := Check(o)
		r2, e2, at2 := Check(x)
		if e1 != e2 || at1 != at2 || !sameReport(r1, r2) {
			t.Fatal(o, e1.Word(), at1, e2.Word(), at2)
		}
	}
}

// summed is bytes with their right sum behind them.
func summed(b []byte) []byte {
	sum := crc.Sum(b)
	return append(bytes.Clone(b), byte(sum>>24), byte(sum>>16), byte(sum>>8), byte(sum))
}

// P11.1, P2: bytes of which some are turned, with their right sum behind: whatever is decoded of them has an answer, the model's.
func TestTurnedBytes(t *testing.T) {
	r := rand.New(rand.NewSource(16))
	decoded := 0
	for range 20 {
		whole, _ := obj.Encode(trusted(r))
		for range 1000 {
			b := bytes.Clone(whole[:len(whole)-4])
			for range 1 + r.Intn(2) {
				b[r.Intn(len(b))] = byte(r.Intn(28))
			}
			if o, e := obj.Decode(summed(b)); e == api.OK {
				decoded++
				holdModel(t, o)
			}
		}
	}
	if decoded < 500 {
		t.Error(decoded)
	}
}

// P11.1, P2: likewise, each byte of one object turned to each other one.
func TestEachByte(t *testing.T) {
	o := program(t, "pred p/2, try @9, allocate 2, getlevel Y1, getvar Y0 X0, switch @5 @6 - @6, @5, putcon a X0, @6, call q/1, cut Y1, deallocate, execute q/0, @9, trust, getstr f/2 X0, unival X1, univoid 1, fail, pred q/1, getlis X0, univar X1, univoid 1, proceed, pred q/0, proceed")
	holdObject(t, "as it is", o)
	whole, _ := obj.Encode(o)
	right, wrong := 0, 0
	for n := range whole[:len(whole)-4] {
		for c := range 256 {
			b := bytes.Clone(whole[:len(whole)-4])
			b[n] = byte(c)
			x, e := obj.Decode(summed(b))
			switch {
			case e != api.OK:
			case holdModel(t, x):
				right++
			default:
				wrong++
			}
		}
	}
	if right < 200 || wrong < 200 {
		t.Error(right, wrong)
	}
}

// apart are the predicates of an object, each with its code in an object of its own; each has all names.
func apart(o obj.Object) []obj.Object {
	var l []obj.Object
	for n, p := range o.Preds {
		_, end, _ := owner(o, p.Entry)
		x := copied(o)
		x.Code = x.Code[p.Entry:end]
		for k := range x.Preds {
			x.Preds[k].Entry = elsewhere
		}
		x.Preds[n].Entry = 0
		for m, i := range x.Code {
			for k, kind := range kinds[i.Op] {
				if kind == 'L' && i.A[k] != noPlace {
					x.Code[m].A[k] -= p.Entry
				}
			}
		}
		l = append(l, x)
	}
	return l
}

// P11.1, P5: objects made one, in any order, can be trusted, if their predicates could; of each instruction the same is known.
func TestMadeOne(t *testing.T) {
	r := rand.New(rand.NewSource(17))
	for range 300 {
		o := trusted(r)
		want, _, _ := Check(o)
		l := apart(o)
		if len(l) > 1 {
			holdFault(t, "one alone", l[0], api.ErrUnknown, -1)
		}
		r.Shuffle(len(l), func(a, b int) { l[a], l[b] = l[b], l[a] })
		whole, e, _ := link.Objects(l...)
		if e != api.OK {
			t.Fatal(o, e.Word())
		}
		got := holdObject(t, whole, whole)
		for _, p := range o.Preds {
			_, end, _ := owner(o, p.Entry)
			at := whole.Preds[obj.Find(whole, p.Name, p.Arity)].Entry
			many := end - p.Entry
			if !slices.Equal(got.States[at:at+many], want.States[p.Entry:end]) || !slices.Equal(got.Needs[at:at+many], want.Needs[p.Entry:end]) {
				t.Fatal(o, p)
			}
		}
	}
}
