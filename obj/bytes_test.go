package obj

import (
	"bytes"
	"hash/crc32"
	"math/rand"
	"slices"
	"testing"

	"resolvent/api"
	"resolvent/code"
	"resolvent/heap"
)

// holdDecode holds Decode against what should be, and that with an error there is no object.
func holdDecode(t *testing.T, what any, b []byte, want api.Errno) {
	t.Helper()
	o, e := Decode(b)
	if e != want || e != api.OK && !Same(o, Object{}) {
		t.Errorf("%v: %v, %v; should be %v", what, o, e.Word(), want.Word())
	}
}

// P8.1: the document's example.
func TestExample(t *testing.T) {
	b, e := Encode(Object{})
	if e != api.OK || !bytes.Equal(b, []byte{0x52, 0x53, 0x4C, 0x56, 0x01, 0, 0, 0, 0, 0, 0, 0, 0, 0x52, 0x64, 0x25, 0x20}) {
		t.Errorf("% X, %v", b, e.Word())
	}
	holdDecode(t, "the empty one", b, api.OK)
}

// P8.1: bytes that are written out here, with something of each kind.
func TestWritten(t *testing.T) {
	o := base()
	o.Names.Funs[1] = heap.Fun{Name: "fg1", Arity: 8}
	body := "RSLV\x01" + "\x00\x02\x00\x02\x00\x03\x00\x04" +
		"\x01a\x01b" + "\x01f\x01\x03fg1\x08" +
		"\x01p\x01\x00\x00" + "\x01p\x02\x00\x03" + "\x01q\x00\xff\xff" +
		"\x14\x00\x02" + "\x03\x01\x00" + "\x1a\x00\x03\xff\xff\x00\x00\x00\x03" + "\x12\x02"
	sum := crc32.ChecksumIEEE([]byte(body))
	want := append([]byte(body), byte(sum>>24), byte(sum>>16), byte(sum>>8), byte(sum))
	if b, e := Encode(o); e != api.OK || !bytes.Equal(b, want) {
		t.Errorf("% X, %v", b, e.Word())
	}
	if x, e := Decode(want); e != api.OK || !Same(x, o) {
		t.Errorf("%v, %v", x, e.Word())
	}
}

// P8.1: numbers of two bytes have their highest byte first, also counts and Labels above 255.
func TestHighBytes(t *testing.T) {
	o := sized(256, 256, 64, 1024)
	o.Code[0] = code.Make(code.Try, 0x0102)
	o.Code[1] = code.Make(code.Switch, 1023, code.Nowhere, 256, 255)
	b, e := Encode(o)
	if e != api.OK || !bytes.Equal(b, modelBytes(o)) {
		t.Fatal(e.Word())
	}
	if !bytes.Equal(b[5:13], []byte{1, 0, 1, 0, 0, 64, 4, 0}) {
		t.Errorf("% X", b[5:13])
	}
	end := b[len(b)-4-1022-9-3:]
	if !bytes.Equal(end[:12], []byte{20, 1, 2, 26, 3, 255, 255, 255, 1, 0, 0, 255}) {
		t.Errorf("% X", end[:12])
	}
	if x, e := Decode(b); e != api.OK || !Same(x, o) {
		t.Error(e.Word())
	}
}

// P8.1, P8.2: each Op, with its operands least and greatest.
func TestEachOp(t *testing.T) {
	for op := range 27 {
		for _, greatest := range []bool{false, true} {
			o := sized(256, 256, 64, 1024)
			i := code.Instr{Op: op}
			for k, kind := range kinds[op] {
				i.A[k] = ends[kind][0]
				if greatest {
					i.A[k] = ends[kind][1]
				}
			}
			o.Code[700] = i
			b, e := Encode(o)
			if e != api.OK || !bytes.Equal(b, modelBytes(o)) {
				t.Error(i, e.Word())
			}
			if x, e := Decode(b); e != api.OK || !Same(x, o) || x.Code[700] != i {
				t.Error(i, e.Word())
			}
		}
	}
}

// P8.2: objects by chance come back from their bytes, and the bytes from their objects.
func TestComeBack(t *testing.T) {
	r := rand.New(rand.NewSource(81))
	for range 5000 {
		o := some(r)
		b, e := Encode(o)
		if e != api.OK || !bytes.Equal(b, modelBytes(o)) {
			t.Fatalf("%v: % X, %v", o, b, e.Word())
		}
		x, e := Decode(b)
		if e != api.OK || !modelSame(x, o) || !Same(x, o) {
			t.Fatalf("%v: %v, %v", o, x, e.Word())
		}
	}
}

// P8.1: bytes that end within each part.
func TestShort(t *testing.T) {
	r := rand.New(rand.NewSource(82))
	l := []Object{{}, base(), sized(1, 1, 1, 1), sized(0, 0, 0, 1), sized(1, 0, 0, 0), sized(0, 1, 0, 0), sized(0, 0, 1, 0)}
	for range 50 {
		l = append(l, some(r))
	}
	for k, o := range l {
		b := modelBytes(o)
		for n := range b {
			holdDecode(t, []int{k, n}, b[:n], api.ErrShort)
		}
	}
	holdDecode(t, "nil", nil, api.ErrShort)
	holdDecode(t, "empty", []byte{}, api.ErrShort)
}

// P8.1: what is behind the end of the bytes in their memory doesn't count.
func TestSpareRoom(t *testing.T) {
	b := modelBytes(base())
	for n := range b {
		if _, e := Decode(b[:n:len(b)]); e != api.ErrShort {
			t.Error(n, e.Word())
		}
	}
}

// P8.1: first bytes that are others, also while those behind them lack.
func TestMagic(t *testing.T) {
	b := modelBytes(base())
	for at := range 5 {
		for turn := 1; turn < 256; turn++ {
			c := bytes.Clone(b)
			c[at] ^= byte(turn)
			holdDecode(t, []int{at, turn}, c, api.ErrMagic)
			holdDecode(t, []int{at, turn}, c[:at+1], api.ErrMagic)
			holdDecode(t, []int{at, turn}, c[:5], api.ErrMagic)
			holdDecode(t, []int{at, turn}, c[:at], api.ErrShort)
		}
	}
	for _, s := range []string{"r", "X", "\x00", "RR", "RSL\x00", "RSLV\x00", "RSLV\x02", "RSLV1", "rslv\x01", "\x01VLSR"} {
		holdDecode(t, s, []byte(s), api.ErrMagic)
	}
	for _, s := range []string{"R", "RS", "RSL", "RSLV", "RSLV\x01", "RSLV\x01\x00"} {
		holdDecode(t, s, []byte(s), api.ErrShort)
	}
}

// counted is the beginning of an object's bytes, with these counts.
func counted(counts ...int) []byte {
	b := []byte("RSLV\x01")
	for _, n := range counts {
		b = append(b, byte(n>>8), byte(n))
	}
	return b
}

// P8.1: counts that are too great are told ahead of all behind them, also while all of that lacks; but where one of the counts themselves lacks, that is told.
func TestCounts(t *testing.T) {
	for _, c := range []struct {
		counts []int
		want   api.Errno
	}{
		{[]int{257, 0, 0, 0}, api.ErrFull}, {[]int{0, 257, 0, 0}, api.ErrFull}, {[]int{0, 0, 65, 0}, api.ErrFull}, {[]int{0, 0, 0, 1025}, api.ErrFull},
		{[]int{65535, 65535, 65535, 65535}, api.ErrFull}, {[]int{512, 0, 0, 0}, api.ErrFull}, {[]int{0, 0, 256, 0}, api.ErrFull}, {[]int{0, 0, 0, 2048}, api.ErrFull}, {[]int{0, 0, 0, 65535}, api.ErrFull},
		{[]int{256, 0, 0, 0}, api.ErrShort}, {[]int{0, 256, 0, 0}, api.ErrShort}, {[]int{0, 0, 64, 0}, api.ErrShort}, {[]int{0, 0, 0, 1024}, api.ErrShort}, {[]int{256, 256, 64, 1024}, api.ErrShort},
	} {
		b := counted(c.counts...)
		holdDecode(t, c.counts, b, c.want)
		holdDecode(t, c.counts, append(bytes.Clone(b), make([]byte, 20)...), c.want)
		if c.want == api.ErrFull {
			holdDecode(t, c.counts, append(bytes.Clone(b), 27, 255, 255), c.want)
		}
		for n := 5; n < 13; n++ {
			holdDecode(t, c.counts, b[:n], api.ErrShort)
		}
	}
	for _, o := range []Object{sized(257, 0, 0, 0), sized(0, 257, 0, 0), sized(0, 0, 65, 0), sized(0, 0, 0, 1025)} {
		holdDecode(t, "all there", modelBytes(o), api.ErrFull)
	}
	full := sized(257, 0, 0, 1)
	full.Code[0].Op = 27
	holdDecode(t, "an Op behind", modelBytes(full), api.ErrFull)
}

// P8.1: Ops' bytes above 26 are told as soon as they stand there.
func TestOps(t *testing.T) {
	o := base()
	for op := range 256 {
		for k := range o.Code {
			c := copied(o)
			c.Code[k] = code.Instr{Op: op}
			body := modelBody(c)
			if op > 26 {
				holdDecode(t, op, summed(body), api.ErrOp)
				// Behind the Op there is nothing.
				c.Code = c.Code[:k+1]
				cut := modelBody(c)
				cut[12] = 4
				holdDecode(t, op, cut, api.ErrOp)
				// Ahead of it is much that Check wouldn't have, but that is told later.
				c.Names.Atoms[0], c.Preds[0].Arity, c.Preds[1].Entry = "A", 9, 4
				cut = modelBody(c)
				cut[12] = 4
				holdDecode(t, op, cut, api.ErrOp)
			} else if want := modelCheck(c); want != api.ErrOp {
				holdDecode(t, op, summed(body), want)
			}
		}
	}
	// A lack ahead of an Op that there isn't, or of its operands, is told first.
	b := counted(0, 0, 0, 2)
	holdDecode(t, "a lack", append(bytes.Clone(b), 20, 0), api.ErrShort)
	holdDecode(t, "none", append(bytes.Clone(b), 20, 0, 0, 27), api.ErrOp)
	holdDecode(t, "taken as operands", append(bytes.Clone(b), 20, 27, 27), api.ErrShort)
}

// P8.1: Check's error of what was read is told behind the last instruction, ahead of the sum, whether that is there, or another one, or more behind it.
func TestCheckOfRead(t *testing.T) {
	for n, c := range []struct {
		want api.Errno
		turn func(o *Object)
	}{
		{api.ErrForm, func(o *Object) { o.Names.Atoms[0] = "" }},
		{api.ErrForm, func(o *Object) { o.Names.Atoms[0] = "a\xff" }},
		{api.ErrForm, func(o *Object) { o.Names.Atoms[0] = "aaaaaaaabbbbbbbbccccccccdddddddde" }},
		{api.ErrForm, func(o *Object) { o.Names.Atoms[0] = string(bytes.Repeat([]byte("a"), 255)) }},
		{api.ErrForm, func(o *Object) { o.Names.Funs[0].Arity = 0 }},
		{api.ErrForm, func(o *Object) { o.Names.Funs[0].Arity = 9 }},
		{api.ErrForm, func(o *Object) { o.Preds[2].Arity = 255 }},
		{api.ErrTwice, func(o *Object) { o.Names.Atoms[1] = "a" }},
		{api.ErrTwice, func(o *Object) { o.Preds[1].Arity = 1 }},
		{api.ErrForm, func(o *Object) { o.Preds[1].Entry = 0 }},
		{api.ErrForm, func(o *Object) { o.Preds[1].Entry = 4 }},
		{api.ErrForm, func(o *Object) { o.Preds[1].Entry = 65534 }},
		{api.ErrOperand, func(o *Object) { o.Code[0].A[0] = 4 }},
		{api.ErrOperand, func(o *Object) { o.Code[0].A[0] = 65535 }},
		{api.ErrOperand, func(o *Object) { o.Code[1].A[0] = 2 }},
		{api.ErrOperand, func(o *Object) { o.Code[1].A[1] = 16 }},
		{api.ErrOperand, func(o *Object) { o.Code[2].A[3] = 65534 }},
		{api.ErrOperand, func(o *Object) { o.Code[3].A[0] = 255 }},
	} {
		body := modelBody(changed(base(), c.turn))
		holdDecode(t, n, summed(body), c.want)
		for size := range 4 {
			holdDecode(t, n, summed(body)[:len(body)+size], c.want)
		}
		holdDecode(t, n, append(summed(body), 0), c.want)
		holdDecode(t, n, append(bytes.Clone(body), 0, 0, 0, 0), c.want)
		// Where a byte ahead of the end lacks, that is told first.
		holdDecode(t, n, body[:len(body)-1], api.ErrShort)
	}
}

// P8.1: more bytes behind the sum, whether it is right or not.
func TestLong(t *testing.T) {
	for n, o := range []Object{{}, base(), sized(256, 256, 64, 1024)} {
		b := modelBytes(o)
		for _, more := range [][]byte{{0}, {1}, b, make([]byte, 1<<16)} {
			holdDecode(t, n, slices.Concat(b, more), api.ErrLong)
		}
		c := bytes.Clone(b)
		c[len(c)-1] ^= 1
		holdDecode(t, n, append(c, 0), api.ErrLong)
	}
}

// P8.1: each bit of the sum, turned; and a sum that is another's.
func TestSum(t *testing.T) {
	for n, o := range []Object{{}, base(), sized(3, 2, 1, 9)} {
		b := modelBytes(o)
		for bit := range 32 {
			c := bytes.Clone(b)
			c[len(c)-4+bit/8] ^= 1 << (bit % 8)
			holdDecode(t, []int{n, bit}, c, api.ErrSum)
		}
		end := len(b) - 4
		for _, sum := range [][]byte{{b[end+3], b[end+2], b[end+1], b[end]}, {0, 0, 0, 0}, {255, 255, 255, 255}, {^b[end], ^b[end+1], ^b[end+2], ^b[end+3]}} {
			holdDecode(t, n, slices.Concat(b[:end], sum), api.ErrSum)
		}
	}
	// Another object that is right itself.
	b := modelBytes(base())
	b[14] = 'c'
	holdDecode(t, "another name", b, api.ErrSum)
}

// P8.1, P8.2, P4: bytes by chance, and bytes of objects of which something was turned, with the sum as it was, or as it should be then: Decode answers what the model does, and what is decoded is encoded to just those bytes.
func TestDecodeModel(t *testing.T) {
	r := rand.New(rand.NewSource(83))
	had := map[api.Errno]int{}
	hold := func(b []byte) {
		t.Helper()
		want, wantError := modelDecode(b)
		had[wantError]++
		o, e := Decode(b)
		if e != wantError || !modelSame(o, want) {
			t.Fatalf("% X: %v, %v; should be %v, %v", b, o, e.Word(), want, wantError.Word())
		}
		if c, e2 := Encode(o); e == api.OK && (e2 != api.OK || !bytes.Equal(b, c)) {
			t.Fatalf("% X: comes back as % X", b, c)
		}
	}
	for range 40000 {
		o := some(r)
		for range r.Intn(3) {
			turns[r.Intn(len(turns))](r, &o)
		}
		body := turnBytes(r, modelBody(o))
		switch r.Intn(4) {
		case 0:
			hold(body)
		case 1:
			b := summed(body)
			hold(turnBytes(r, b))
		default:
			hold(summed(body))
		}
	}
	for range 5000 {
		b := make([]byte, r.Intn(40))
		r.Read(b)
		hold(b)
		hold(append([]byte("RSLV\x01"), b...))
		hold(summed(append(counted(r.Intn(2), r.Intn(2), r.Intn(2), r.Intn(3)), b...)))
	}
	for e, least := range map[api.Errno]int{api.OK: 5000, api.ErrShort: 500, api.ErrMagic: 500, api.ErrOp: 200, api.ErrForm: 500, api.ErrTwice: 200, api.ErrOperand: 500, api.ErrLong: 200, api.ErrSum: 50, api.ErrFull: 50} {
		if had[e] < least {
			t.Error(e.Word(), had[e])
		}
	}
}

// turnBytes turns, takes away or adds some bytes, or none.
func turnBytes(r *rand.Rand, b []byte) []byte {
	b = bytes.Clone(b)
	for range r.Intn(3) {
		if len(b) == 0 {
			return b
		}
		at := r.Intn(len(b))
		switch r.Intn(6) {
		case 0:
			b[at] ^= 1 << r.Intn(8)
		case 1:
			b[at] = byte(r.Intn(30))
		case 2:
			b = slices.Delete(b, at, at+1)
		case 3:
			b = slices.Insert(b, at, byte(r.Intn(256)))
		case 4:
			b = b[:at]
		case 5:
			b = append(b, byte(r.Intn(256)))
		}
	}
	return b
}

// P8.2: of the bytes of an object no bit can be turned without a fault.
func TestOneBit(t *testing.T) {
	for n, o := range []Object{{}, base(), sized(4, 3, 2, 5)} {
		b := modelBytes(o)
		for bit := range 8 * len(b) {
			c := bytes.Clone(b)
			c[bit/8] ^= 1 << (bit % 8)
			if x, e := Decode(c); e == api.OK || !Same(x, Object{}) {
				t.Error(n, bit)
			}
		}
	}
}

// spare is a row in memory that has room behind it, which holds something.
func spare[T any](l []T, filler T) []T {
	row := append(slices.Clone(l), filler, filler, filler)
	return row[:len(l)]
}

// P8.3: objects that are handed in aren't changed, their spare room neither.
func TestObjectsStay(t *testing.T) {
	r := rand.New(rand.NewSource(84))
	for range 300 {
		o := some(r)
		if r.Intn(2) == 0 {
			turns[r.Intn(len(turns))](r, &o)
		}
		was := copied(o)
		name, fun, pred, instr := "spare", heap.Fun{Name: "spare", Arity: 3}, Pred{"spare", 3, 3}, code.Make(code.Cut, 3)
		o = Object{Names: heap.Names{Atoms: spare(o.Names.Atoms, name), Funs: spare(o.Names.Funs, fun)}, Preds: spare(o.Preds, pred), Code: spare(o.Code, instr)}
		Check(o)
		Encode(o)
		Same(o, was)
		Same(was, o)
		Find(o, "n0", 0)
		if !modelSame(o, was) {
			t.Fatal(o, was)
		}
		for _, s := range o.Names.Atoms[len(o.Names.Atoms):cap(o.Names.Atoms)][:3] {
			if s != name {
				t.Error(s)
			}
		}
		for _, f := range o.Names.Funs[len(o.Names.Funs):cap(o.Names.Funs)][:3] {
			if f != fun {
				t.Error(f)
			}
		}
		for _, p := range o.Preds[len(o.Preds):cap(o.Preds)][:3] {
			if p != pred {
				t.Error(p)
			}
		}
		for _, i := range o.Code[len(o.Code):cap(o.Code)][:3] {
			if i != instr {
				t.Error(i)
			}
		}
	}
}

// P8.3: bytes that are handed in aren't changed, their spare room neither, nor kept: who changes them changes no object.
func TestBytesStay(t *testing.T) {
	b := modelBytes(base())
	row := append(bytes.Clone(b), 1, 2, 3, 4, 5)
	o, e := Decode(row[:len(b)])
	if e != api.OK || !bytes.Equal(row, append(bytes.Clone(b), 1, 2, 3, 4, 5)) {
		t.Error(e.Word(), row)
	}
	for k := range row {
		row[k] = 'z'
	}
	if !Same(o, base()) {
		t.Error(o)
	}
}

// P8.3: answers are new memory: who changes one, or its spare room, changes no other, nor what was handed in.
func TestAnswersAreNew(t *testing.T) {
	o := base()
	first, _ := Encode(o)
	second, _ := Encode(o)
	was := bytes.Clone(first)
	first = first[:cap(first)]
	for k := range first {
		first[k] = 0xAA
	}
	if !bytes.Equal(second, was) || !Same(o, base()) {
		t.Error("bytes are shared")
	}
	b := bytes.Clone(was)
	x, _ := Decode(b)
	y, _ := Decode(b)
	for k := range x.Names.Atoms {
		x.Names.Atoms[k] = "zz"
	}
	for k := range x.Names.Funs {
		x.Names.Funs[k] = heap.Fun{Name: "zz", Arity: 7}
	}
	for k := range x.Preds {
		x.Preds[k] = Pred{"zz", 7, 7}
	}
	for k := range x.Code {
		x.Code[k] = code.Make(code.Cut, 7)
	}
	x.Names.Atoms = append(x.Names.Atoms, "zz")
	x.Code = append(x.Code, code.Make(code.Cut, 7))
	if !Same(y, base()) || !bytes.Equal(b, was) {
		t.Error("objects are shared")
	}
	o.Names.Atoms[0], o.Preds[0].Name, o.Code[0].Op = "c", "r", 0
	if !bytes.Equal(second, was) {
		t.Error("the object is kept")
	}
}

// P8.1: answers hang on what is given alone.
func TestAgain(t *testing.T) {
	r := rand.New(rand.NewSource(85))
	for range 200 {
		o := some(r)
		first, _ := Encode(o)
		Decode(turnBytes(r, first))
		Check(some(r))
		second, _ := Encode(copied(o))
		if !bytes.Equal(first, second) {
			t.Fatal(o)
		}
	}
}
