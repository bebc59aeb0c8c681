package sidebyside

import (
	"encoding/binary"
	"math/rand"
	"testing"

	"resolvent/api"
	"resolvent/crc"
	"resolvent/fast"
	"resolvent/link"
	"resolvent/machine"
	"resolvent/obj"
	"resolvent/term"
	"resolvent/verify"
)

// summed is bytes with another sum, that is right, at their end.
func summed(b []byte) []byte {
	end := len(b) - 4
	return binary.BigEndian.AppendUint32(b[:end:end], crc.Sum(b[:end]))
}

// P2, P4: of bytes of which some are turned, what is decoded and can be trusted runs, whichever predicate is asked and whatever room there is, and is never stuck; nothing else runs.
func TestBytes(t *testing.T) {
	r := rand.New(rand.NewSource(61))
	runs, refused := 0, 0
	seen := map[string]int{}
	for range 600 {
		b, e := obj.Encode(object(t, r))
		if e != api.OK {
			t.Fatal(e.Word())
		}
		for range 20 {
			c := append([]byte{}, b...)
			for range 1 + r.Intn(2) {
				c[13+r.Intn(len(c)-17)] ^= 1 << r.Intn(8)
			}
			o, e := obj.Decode(summed(c))
			if e != api.OK {
				continue
			}
			if _, e, _ := verify.Check(o); e != api.OK {
				refused++
				holdNew(t, o, 0, large, e)
				continue
			}
			runs++
			for pred := range o.Preds {
				begin(t, o, pred, someRoom(r), seen).through(60)
			}
		}
	}
	if runs < 300 || refused < 300 {
		t.Error(runs, refused)
	}
}

// P2, P5: objects made one run as each of them, with names and places that are others then.
func TestLinked(t *testing.T) {
	a := program(t, "pred p/1, putcon x X1, getval X0 X1, proceed")
	b := program(t, busy)
	b.Preds[0].Name, b.Preds[1].Name = "main", "help"
	o, e, _ := link.Objects(a, b)
	if e != api.OK {
		t.Fatal(e.Word())
	}
	s := begin(t, o, obj.Find(o, "main", 2), large, map[string]int{})
	w := begin(t, b, 0, large, map[string]int{})
	for range 60 {
		if s.w.out != w.w.out {
			t.Fatal(s.tell(), w.tell())
		}
		for k := range 2 {
			x, e := w.m.Read(k)
			if e == api.OK {
				holdRead(t, s, k, term.Text(x))
			}
		}
		s.through(1)
		w.through(1)
	}
}

// P3: programs that run long, in all the room there may be, come to the same.
func TestLong(t *testing.T) {
	most := machine.Room{Cells: 65536, Words: 65536, Choices: 65536}
	for _, text := range []string{
		// a list made and gone through, again and again
		"pred p/1, allocate 1, getvar Y0 X0, call m/1, putval Y0 X0, deallocate, execute t/1, pred m/1, getlis X0, unicon a, univar X1, getlis X1, unicon b, univar X1, getcon nil X1, proceed, pred t/1, switch - @1 @2 -, @1, getcon nil X0, putvar X0 X0, execute p/1, @2, getlis X0, univar X1, univar X0, execute t/1",
		// choices within choices, through which it fails back
		"pred p/1, allocate 1, getvar Y0 X0, call q/1, putval Y0 X0, call q/1, putval Y0 X0, call q/1, deallocate, fail, pred q/1, try @1, getlis X0, unicon a, univoid 1, proceed, @1, retry @2, getlis X0, univoid 1, unicon b, proceed, @2, trust, getlis X0, unicon c, univar X1, execute q/1",
		// many made one
		"pred p/2, putstr f/2 X2, unival X0, unival X1, putstr f/2 X3, unival X1, univar X4, getval X2 X3, getval X4 X0, putvar X0 X0, putvar X1 X1, execute p/2",
	} {
		o := program(t, text)
		m, _ := machine.New(o, 0, most)
		f, _ := fast.New(o, 0, most)
		for range 40 {
			if a, b := m.Run(997), f.Run(997); a != b || !machine.Same(m.Snap(), f.Snap()) {
				t.Fatal(text, a, b)
			}
		}
	}
}
