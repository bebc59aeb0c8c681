package crc

import (
	"bytes"
	"hash/crc32"
	"math/bits"
	"math/rand"
	"slices"
	"testing"
)

// model goes by the document's words, bit by bit, without a word of the program's.
func model(b []byte) uint32 {
	var register [32]bool // from the lowest bit on
	for k := range register {
		register[k] = true
	}
	for _, c := range b {
		for k := range 8 {
			register[k] = register[k] != (c>>k&1 == 1)
		}
		for range 8 {
			out := register[0]
			copy(register[:], register[1:])
			register[31] = false
			for k := range register {
				register[k] = register[k] != (out && uint32(0xEDB88320)>>k&1 == 1)
			}
		}
	}
	var sum uint32
	for k, bit := range register {
		if !bit {
			sum |= 1 << k
		}
	}
	return sum
}

// some are n bytes by chance.
func some(r *rand.Rand, n int) []byte {
	b := make([]byte, n)
	for k := range b {
		b[k] = byte(r.Intn(256))
	}
	return b
}

// turn is b in new memory, with those bits turned that are 1 in pattern, from the bit at on. Bits count as the register takes them: a byte's lowest one is its first.
func turn(b []byte, at int, pattern uint64) []byte {
	b = bytes.Clone(b)
	for ; pattern != 0; pattern &= pattern - 1 {
		k := at + bits.TrailingZeros64(pattern)
		b[k/8] ^= 1 << (k % 8)
	}
	return b
}

// P7.1: the document's example, and other sums that are known.
func TestKnown(t *testing.T) {
	for _, c := range []struct {
		b    string
		want uint32
	}{
		{"", 0}, {"123456789", 0xCBF43926}, {"a", 0xE8B7BE43}, {"abc", 0x352441C2}, {"\x00", 0xD202EF8D}, {"\xff", 0xFF000000},
		{"\x00\x00\x00\x00", 0x2144DF1C}, {"\xff\xff\xff\xff", 0xFFFFFFFF}, {"The quick brown fox jumps over the lazy dog", 0x414FA339},
		{string(make([]byte, 32)), 0x190A55AD}, {string(bytes.Repeat([]byte{255}, 32)), 0xFF6CAB0B},
	} {
		if got := Sum([]byte(c.b)); got != c.want {
			t.Errorf("%q: %08X; should be %08X", c.b, got, c.want)
		}
	}
}

// P7.1: of nothing: 0, in whichever way there is nothing.
func TestNothing(t *testing.T) {
	for k, got := range []uint32{Sum(), Sum(nil), Sum([]byte{}), Sum(nil, nil, []byte{}), Sum([][]byte{}...), Sum(make([][]byte, 1<<16)...), Go(0, nil), Go(0, []byte{})} {
		if got != 0 {
			t.Error(k, got)
		}
	}
}

// P7.1: each single byte, and each behind another one.
func TestBytes(t *testing.T) {
	for c := range 256 {
		one := []byte{byte(c)}
		if got := Sum(one); got != model(one) {
			t.Errorf("%d: %08X", c, got)
		}
		for d := range 256 {
			two := []byte{byte(c), byte(d)}
			if got := Sum(two); got != crc32.ChecksumIEEE(two) {
				t.Errorf("%d, %d: %08X", c, d, got)
			}
		}
	}
}

// P7.1: bytes by chance, of all lengths up to some hundreds, and some more.
func TestLengths(t *testing.T) {
	r := rand.New(rand.NewSource(7))
	for n := range 300 {
		b := some(r, n)
		if got := Sum(b); got != model(b) || got != crc32.ChecksumIEEE(b) {
			t.Errorf("%d: %08X", n, got)
		}
	}
	for _, n := range []int{1 << 12, 1<<16 - 1, 1 << 16, 1<<16 + 1, 1 << 20} {
		b := some(r, n)
		if got := Sum(b); got != crc32.ChecksumIEEE(b) {
			t.Errorf("%d: %08X", n, got)
		}
	}
}

// P7.1: it is no matter where bytes are parted, nor how many empty parts stand between.
func TestParts(t *testing.T) {
	r := rand.New(rand.NewSource(71))
	b := some(r, 200)
	want := model(b)
	for n := range len(b) + 1 {
		ahead, behind := b[:n], b[n:]
		for k, got := range []uint32{Sum(ahead, behind), Sum(nil, ahead, nil, []byte{}, behind, nil), Go(Sum(ahead), behind), Go(Go(0, ahead), behind)} {
			if got != want {
				t.Errorf("%d, %d: %08X", n, k, got)
			}
		}
	}
	for range 200 {
		var parts [][]byte
		for rest := b; len(rest) > 0; {
			n := min(r.Intn(20), len(rest))
			parts = append(parts, rest[:n])
			rest = rest[n:]
		}
		if got := Sum(parts...); got != want {
			t.Errorf("%08X", got)
		}
	}
	var single [][]byte
	for n := range b {
		single = append(single, b[n:n+1])
	}
	if Sum(single...) != want || Sum(slices.Concat(single, single)...) != model(slices.Concat(b, b)) {
		t.Error("byte by byte")
	}
}

// P7.1: the order of parts counts.
func TestOrder(t *testing.T) {
	if a, b := Sum([]byte("12"), []byte("3")), Sum([]byte("3"), []byte("12")); a != model([]byte("123")) || b != model([]byte("312")) || a == b {
		t.Errorf("%08X, %08X", a, b)
	}
}

// P7.1: Go goes on from each sum, also of bytes that nobody has seen; of no bytes behind it the sum stays.
func TestGo(t *testing.T) {
	r := rand.New(rand.NewSource(72))
	sums := []uint32{0, 1, 0x7FFFFFFF, 0x80000000, 0xFFFFFFFE, 0xFFFFFFFF, 0xEDB88320, 0xCBF43926}
	for range 500 {
		sums = append(sums, r.Uint32())
	}
	for _, sum := range sums {
		if Go(sum, nil) != sum || Go(sum, []byte{}) != sum {
			t.Errorf("%08X: nothing behind it", sum)
		}
		b := some(r, 1+r.Intn(30))
		if got := Go(sum, b); got != crc32.Update(sum, crc32.IEEETable, b) {
			t.Errorf("%08X: %08X", sum, got)
		}
	}
}

// P7.2: one bit that is turned, in all places.
func TestOneBit(t *testing.T) {
	r := rand.New(rand.NewSource(73))
	for n := 1; n <= 40; n++ {
		b := some(r, n)
		for at := range 8 * n {
			if Sum(turn(b, at, 1)) == Sum(b) {
				t.Error(n, at)
			}
		}
	}
}

// P7.2: all ways to turn some of up to twelve bits, also at both ends and over the bounds of bytes.
func TestFewBits(t *testing.T) {
	r := rand.New(rand.NewSource(74))
	for _, b := range [][]byte{make([]byte, 5), some(r, 5), some(r, 30)} {
		sum := Sum(b)
		for _, at := range []int{0, 1, 3, 7, 8, 13, 8*len(b) - 12} {
			for pattern := uint64(1); pattern < 1<<12; pattern++ {
				if Sum(turn(b, at, pattern)) == sum {
					t.Errorf("%d, %d, %b", len(b), at, pattern)
				}
			}
		}
	}
}

// P7.2: the first and the last bit of 32, alone, with all between, and with some between.
func TestFirstAndLast(t *testing.T) {
	r := rand.New(rand.NewSource(75))
	const ends, every = 1<<31 | 1, 1<<32 - 1
	for _, n := range []int{4, 5, 8, 9, 33, 100} {
		b := some(r, n)
		sum := Sum(b)
		for at := 0; at+32 <= 8*n; at++ {
			patterns := []uint64{ends, every, every &^ 2, ends | 0xEDB88320}
			for range 20 {
				patterns = append(patterns, ends|uint64(r.Uint32()))
			}
			for _, pattern := range patterns {
				if Sum(turn(b, at, pattern)) == sum {
					t.Errorf("%d, %d, %b", n, at, pattern)
				}
			}
		}
	}
}

// rank is how many of the numbers can't be made of others by exclusive or.
func rank(l []uint32) int {
	var heads [32]uint32 // by their highest bit
	n := 0
	for _, x := range l {
		for x != 0 && heads[bits.Len32(x)-1] != 0 {
			x ^= heads[bits.Len32(x)-1]
		}
		if x != 0 {
			heads[bits.Len32(x)-1] = x
			n++
		}
	}
	return n
}

// P7.2: all ways to turn some of 32 bits, in each place. What bits change in the Sum is the exclusive or of what each of them changes, whatever the bytes are; so no way changes nothing just where none of the 32 changes comes of others.
func TestAllPatterns(t *testing.T) {
	r := rand.New(rand.NewSource(76))
	for _, n := range []int{4, 5, 6, 12, 40} {
		b, other := some(r, n), some(r, n)
		for at := 0; at+32 <= 8*n; at++ {
			var changes []uint32
			for k := range 32 {
				changes = append(changes, Sum(turn(b, at, 1<<k))^Sum(b))
			}
			if got := rank(changes); got != 32 {
				t.Error(n, at, got)
			}
			for range 20 {
				pattern := uint64(r.Uint32())
				var want uint32
				for k, change := range changes {
					if pattern>>k&1 == 1 {
						want ^= change
					}
				}
				if Sum(turn(b, at, pattern))^Sum(b) != want || Sum(turn(other, at, pattern))^Sum(other) != want {
					t.Errorf("%d, %d, %b", n, at, pattern)
				}
			}
		}
	}
}

// P7.2: also where the bits lie in several parts, or behind what had a sum already.
func TestBitsOverParts(t *testing.T) {
	r := rand.New(rand.NewSource(77))
	b := some(r, 12)
	for at := 0; at+32 <= 8*len(b); at++ {
		for range 20 {
			pattern := uint64(r.Uint32()) | 1
			c := turn(b, at, pattern)
			n := r.Intn(len(b) + 1)
			if Sum(c[:n], c[n:]) == Sum(b) || Go(Sum(c[:n]), c[n:]) == Sum(b) {
				t.Errorf("%d, %b, %d", at, pattern, n)
			}
		}
	}
}

// P7.1: of 33 bits there is a way that changes nothing; where it is one bit less or more it changes something again.
func TestBeyond(t *testing.T) {
	r := rand.New(rand.NewSource(78))
	b := some(r, 20)
	// The first bit falls out of the register, and the 32 behind it undo what then goes into it.
	const same = 0xEDB88320<<1 | 1
	for at := 0; at+33 <= 8*len(b); at++ {
		if Sum(turn(b, at, same)) != Sum(b) {
			t.Error(at)
		}
		for k := range 33 {
			if Sum(turn(b, at, same^1<<k)) == Sum(b) {
				t.Error(at, k)
			}
		}
	}
}

// P7.1: what is handed in isn't changed, its spare room neither.
func TestNothingChanged(t *testing.T) {
	r := rand.New(rand.NewSource(79))
	row := some(r, 64)
	was := bytes.Clone(row)
	parts := [][]byte{row[:10], nil, row[10:20:40], row[40:50]}
	Sum(parts...)
	Sum(parts[:2]...)
	Go(7, row[5:9])
	if !bytes.Equal(row, was) || len(parts[0]) != 10 || parts[1] != nil || len(parts[2]) != 10 || &parts[3][0] != &row[40] {
		t.Error(row)
	}
}
