package crc_test

import (
	"bytes"
	"hash/crc32"
	"math"
	"math/bits"
	"slices"
	"testing"

	"coppice/api"
	"coppice/crc"
)

// spread are some registers, others for each seed, the same ones at each run.
func spread(count int, seed uint64) []uint32 {
	l := make([]uint32, count)
	x := 88172645463325252 + seed*11400714819323198485
	for i := range l {
		x ^= x << 13
		x ^= x >> 7
		x ^= x << 17
		l[i] = uint32(x >> 32)
	}
	return l
}

// registers are those at which something turns, and some between.
func registers() []uint32 {
	l := []uint32{0, 1, 2, 5, 9, 0xff, 0x7fffffff, 0x80000000, 0xedb88320, 0x12345678, 0xfffffffe, math.MaxUint32}
	return append(l, spread(20, 0)...)
}

// text are so many bytes, others for each seed.
func text(size int, seed uint64) []byte {
	b := make([]byte, size)
	for i, n := range spread(size, seed) {
		b[i] = byte(n >> 16)
	}
	return b
}

// texts are some of many lengths, with those that are all one byte.
func texts() [][]byte {
	l := [][]byte{nil, {}, []byte("a"), []byte("1234"), []byte("123456789"), []byte("The quick brown fox jumps over the lazy dog")}
	for size := range 20 {
		l = append(l, text(size, uint64(size)), make([]byte, size), bytes.Repeat([]byte{255}, size))
	}
	for c := range 256 {
		l = append(l, []byte{byte(c)}, []byte{0, byte(c), 255})
	}
	return append(l, text(300, 1), text(5000, 2))
}

// step takes a register's steps by the words of the chapter's section 'Types'.
func step(r uint32, count int) uint32 {
	for range count {
		fell := r % 2
		r /= 2
		if fell == 1 {
			r ^= 0xedb88320
		}
	}
	return r
}

func checkJoin(t *testing.T, a, b uint32, n int, want uint32, err api.Errno) {
	t.Helper()
	if got, gotErr := crc.Join(a, b, n); got != want || gotErr != err {
		t.Errorf("Join of %x, %x, %d: %x, %d; want %x, %d", a, b, n, got, gotErr, want, err)
	}
}

func checkOpen(t *testing.T, b, want []byte, err api.Errno) {
	t.Helper()
	if got, gotErr := crc.Open(b); !bytes.Equal(got, want) || gotErr != err {
		t.Errorf("Open of % x: % x, %d; want % x, %d", b, got, gotErr, want, err)
	}
}

// The rows of the chapter's table of examples.
func TestExamples(t *testing.T) {
	if a, b, c := crc.Sum(nil), crc.Sum([]byte("a")), crc.Sum([]byte("123456789")); a != 0 || b != 0xe8b7be43 || c != 0xcbf43926 {
		t.Errorf("Sum: %x, %x, %x", a, b, c)
	}
	if got := crc.More(crc.Sum([]byte("1234")), []byte("56789")); got != 0xcbf43926 {
		t.Errorf("More: %x", got)
	}
	checkJoin(t, crc.Sum([]byte("1234")), crc.Sum([]byte("56789")), 5, 0xcbf43926, api.OK)
	checkJoin(t, 5, 9, 0, 5^9, api.OK)
	checkJoin(t, 0, 9, 7, 9, api.OK)
	checkJoin(t, 1, 1, -1, 0, api.ErrArg)
	if got := crc.Seal([]byte("a")); !bytes.Equal(got, []byte{0x61, 0x43, 0xbe, 0xb7, 0xe8}) {
		t.Errorf("Seal: % x", got)
	}
	checkOpen(t, []byte{0x43, 0xbe, 0xb7}, nil, api.ErrCrcShort)
	checkOpen(t, []byte{0, 0, 0, 0}, nil, api.OK)
	checkOpen(t, []byte{0x61, 0x43, 0xbe, 0xb7, 0xe9}, nil, api.ErrCrcSum)
	p, err := crc.Patch([]byte("1234"), 0, 0)
	if !bytes.Equal(p, []byte{0x9d, 0x0a, 0xd9, 0x6d}) || err != api.OK || crc.Sum(p) != 0 {
		t.Errorf("Patch: % x, %d", p, err)
	}
}

// C1, against the library's sum and against the chapter's words.
func TestSum(t *testing.T) {
	if a, b := crc.Sum(nil), crc.Sum([]byte{}); a != 0 || b != 0 {
		t.Errorf("of no bytes: %x, %x", a, b)
	}
	for _, b := range texts() {
		r := uint32(0xffffffff)
		for _, c := range b {
			r = step(r^uint32(c), 8)
		}
		if got := crc.Sum(b); got != crc32.ChecksumIEEE(b) || got != ^r {
			t.Errorf("Sum of % x: %x, want %x", b, got, ^r)
		}
	}
}

// C1: the spare room of a list is no part of it.
func TestSumSpareRoom(t *testing.T) {
	if got := crc.Sum([]byte("abc")[:1]); got != 0xe8b7be43 {
		t.Errorf("%x", got)
	}
}

// C2: behind any sum, be there a text that has it at hand or not.
func TestMore(t *testing.T) {
	for _, s := range registers() {
		if a, b := crc.More(s, nil), crc.More(s, []byte{}); a != s || b != s {
			t.Errorf("More of %x and no bytes: %x, %x", s, a, b)
		}
		for _, b := range texts() {
			if got, want := crc.More(s, b), crc32.Update(s, crc32.IEEETable, b); got != want {
				t.Errorf("More of %x, % x: %x, want %x", s, b, got, want)
			}
		}
	}
	for _, b := range texts() {
		if got := crc.More(0, b); got != crc.Sum(b) {
			t.Errorf("More of 0, % x: %x", b, got)
		}
	}
}

// C3: n below 0.
func TestJoinBelow(t *testing.T) {
	for _, n := range []int{-1, -2, -8, math.MinInt + 1, math.MinInt} {
		for _, a := range registers() {
			checkJoin(t, a, 1, n, 0, api.ErrArg)
			checkJoin(t, 0, a, n, 0, api.ErrArg)
		}
	}
}

// C3: step by step, from n 0 on.
func TestJoinSteps(t *testing.T) {
	for i, a := range registers() {
		b := registers()[len(registers())-1-i]
		for n := range 300 {
			checkJoin(t, a, b, n, step(a, 8*n)^b, api.OK)
		}
		checkJoin(t, 0, b, 1<<20, b, api.OK)
	}
	for _, n := range []int{1023, 1024, 1025, 65535, 65536, 1 << 17, 100000} {
		checkJoin(t, 0x12345678, 0x600df00d, n, step(0x12345678, 8*n)^0x600df00d, api.OK)
	}
}

// C3: n as great as an int can be. A register that is not 0 comes round in 2^32 - 1 steps; 8 MaxInt is 4 less than a multiple of these, whether an int has 32 bits or 64.
func TestJoinGreat(t *testing.T) {
	for _, a := range registers() {
		got, err := crc.Join(a, 0x600df00d, math.MaxInt)
		if err != api.OK || step(got^0x600df00d, 4) != a {
			t.Errorf("Join of %x and MaxInt bytes: %x, %d", a, got, err)
		}
		got, err = crc.Join(a, 0, math.MaxInt-1)
		if err != api.OK || step(got, 12) != a {
			t.Errorf("Join of %x and MaxInt - 1 bytes: %x, %d", a, got, err)
		}
		// Likewise half of 8 MaxInt + 8 is 2 more than a multiple.
		checkJoin(t, a, 0, math.MaxInt/2+1, step(a, 2), api.OK)
	}
}

// C3: n bytes and m bytes are n + m bytes.
func TestJoinAdds(t *testing.T) {
	for i := range bits.UintSize - 2 {
		n, m := 1<<i, (1<<i)/3
		for _, a := range registers() {
			some, _ := crc.Join(a, 0, n)
			both, err := crc.Join(some, 0, m)
			checkJoin(t, a, 0, n+m, both, err)
			checkJoin(t, a, 0x77, n, some^0x77, api.OK)
		}
	}
}

// C4.
func TestSeal(t *testing.T) {
	for _, b := range texts() {
		sum := crc32.ChecksumIEEE(b)
		want := append(slices.Clone(b), byte(sum), byte(sum>>8), byte(sum>>16), byte(sum>>24))
		got := crc.Seal(b)
		if !bytes.Equal(got, want) {
			t.Errorf("Seal of % x: % x", b, got)
		}
		checkOpen(t, got, b, api.OK)
	}
	if got := crc.Seal(nil); !bytes.Equal(got, make([]byte, 4)) {
		t.Errorf("Seal of nothing: % x", got)
	}
}

// C4: fewer than four bytes, whatever they are.
func TestOpenShort(t *testing.T) {
	checkOpen(t, nil, nil, api.ErrCrcShort)
	for size := range 4 {
		for seed := range uint64(20) {
			checkOpen(t, text(size, seed), nil, api.ErrCrcShort)
		}
		checkOpen(t, make([]byte, size), nil, api.ErrCrcShort)
		checkOpen(t, make([]byte, size, 8), nil, api.ErrCrcShort)
	}
}

// C4: just four bytes are the sum of none, or no sum.
func TestOpenFour(t *testing.T) {
	checkOpen(t, make([]byte, 4), nil, api.OK)
	for at := range 4 {
		for c := 1; c < 256; c++ {
			b := make([]byte, 4)
			b[at] = byte(c)
			checkOpen(t, b, nil, api.ErrCrcSum)
		}
	}
	checkOpen(t, []byte{255, 255, 255, 255}, nil, api.ErrCrcSum)
}

// C4: another sum, the right one the other way round, one too few, one too many.
func TestOpenWrong(t *testing.T) {
	for _, b := range texts() {
		sealed := crc.Seal(b)
		for at := range 4 {
			wrong := slices.Clone(sealed)
			wrong[len(b)+at]++
			checkOpen(t, wrong, nil, api.ErrCrcSum)
		}
		other := slices.Clone(sealed)
		slices.Reverse(other[len(b):])
		if !bytes.Equal(other, sealed) {
			checkOpen(t, other, nil, api.ErrCrcSum)
		}
	}
	sealed := crc.Seal([]byte("a text"))
	checkOpen(t, sealed[:len(sealed)-1], nil, api.ErrCrcSum)
	checkOpen(t, sealed[1:], nil, api.ErrCrcSum)
	checkOpen(t, append(slices.Clone(sealed), 7), nil, api.ErrCrcSum)
}

// C5: at every place, for many sums; all but the four bytes is as it was.
func TestPatch(t *testing.T) {
	for _, size := range []int{4, 5, 7, 8, 13, 40} {
		b := text(size, 3)
		for at := range size - 3 {
			for _, want := range registers() {
				p, err := crc.Patch(b, at, want)
				if err != api.OK || len(p) != size {
					t.Fatalf("Patch of %d bytes at %d: %d bytes, %d", size, at, len(p), err)
				}
				if crc32.ChecksumIEEE(p) != want || !bytes.Equal(p[:at], b[:at]) || !bytes.Equal(p[at+4:], b[at+4:]) {
					t.Errorf("Patch of % x at %d for %x: % x", b, at, want, p)
				}
			}
		}
	}
}

// C5: places at which not four bytes stand.
func TestPatchPlaces(t *testing.T) {
	room := make([]byte, 20)
	for size := range 10 {
		b := room[:size]
		for _, at := range []int{math.MinInt, math.MinInt + 1, -5, -4, -3, -1, size - 3, size - 2, size - 1, size, size + 1, math.MaxInt - 4, math.MaxInt - 3, math.MaxInt - 1, math.MaxInt} {
			if at >= 0 && at+4 <= size && at+4 > at {
				continue
			}
			if p, err := crc.Patch(b, at, 7); len(p) != 0 || err != api.ErrArg {
				t.Errorf("Patch of %d bytes at %d: % x, %d", size, at, p, err)
			}
		}
		if size < 4 {
			continue
		}
		for _, at := range []int{0, size - 4} {
			if p, err := crc.Patch(b, at, 7); len(p) != size || err != api.OK || crc.Sum(p) != 7 {
				t.Errorf("Patch of %d bytes at %d: % x, %d", size, at, p, err)
			}
		}
	}
	for _, at := range []int{-1, 0, 1, math.MaxInt} {
		if p, err := crc.Patch(nil, at, 0); len(p) != 0 || err != api.ErrArg {
			t.Errorf("Patch of nothing at %d: % x, %d", at, p, err)
		}
	}
}

// C6: in pieces, with none among them; asked on the way.
func TestDigest(t *testing.T) {
	d := crc.New()
	if d.Sum() != 0 || d.Len() != 0 {
		t.Errorf("new: %x, %d", d.Sum(), d.Len())
	}
	var whole []byte
	for _, b := range texts() {
		d.Write(b)
		whole = append(whole, b...)
		for range 2 {
			if d.Sum() != crc32.ChecksumIEEE(whole) || d.Len() != len(whole) {
				t.Errorf("behind %d bytes: %x, %d", len(whole), d.Sum(), d.Len())
			}
		}
	}
}

// C6: two beside one another; one is Reset, and gone on with.
func TestDigestsApart(t *testing.T) {
	x, y := crc.New(), crc.New()
	x.Write([]byte("1234"))
	y.Write([]byte("a"))
	x.Write([]byte("56789"))
	if x.Sum() != 0xcbf43926 || x.Len() != 9 || y.Sum() != 0xe8b7be43 || y.Len() != 1 {
		t.Errorf("%x, %d; %x, %d", x.Sum(), x.Len(), y.Sum(), y.Len())
	}
	x.Reset()
	if x.Sum() != 0 || x.Len() != 0 || y.Sum() != 0xe8b7be43 || y.Len() != 1 {
		t.Errorf("one Reset: %x, %d; %x, %d", x.Sum(), x.Len(), y.Sum(), y.Len())
	}
	x.Write([]byte("a"))
	y.Reset()
	y.Reset()
	y.Write(nil)
	if x.Sum() != 0xe8b7be43 || x.Len() != 1 || y.Sum() != 0 || y.Len() != 0 {
		t.Errorf("gone on with: %x, %d; %x, %d", x.Sum(), x.Len(), y.Sum(), y.Len())
	}
}

// P2.2: three parts, wherever they are cut.
func TestInParts(t *testing.T) {
	b := text(30, 5)
	want := crc.Sum(b)
	for i := range len(b) + 1 {
		for j := i; j <= len(b); j++ {
			first, second, third := b[:i], b[i:j], b[j:]
			if got := crc.More(crc.More(crc.Sum(first), second), third); got != want {
				t.Errorf("More, cut at %d and %d: %x", i, j, got)
			}
			left, _ := crc.Join(crc.Sum(first), crc.Sum(second), len(second))
			checkJoin(t, left, crc.Sum(third), len(third), want, api.OK)
			right, _ := crc.Join(crc.Sum(second), crc.Sum(third), len(third))
			checkJoin(t, crc.Sum(first), right, len(b)-i, want, api.OK)
			d := crc.New()
			d.Write(first)
			d.Write(second)
			d.Write(third)
			if d.Sum() != want || d.Len() != len(b) {
				t.Errorf("Digest, cut at %d and %d: %x, %d", i, j, d.Sum(), d.Len())
			}
		}
	}
}

// P2.2: many parts.
func TestInManyParts(t *testing.T) {
	b := text(3000, 6)
	for _, size := range []int{1, 2, 7, 256, 2999} {
		d, more, join := crc.New(), uint32(0), uint32(0)
		for part := range slices.Chunk(b, size) {
			d.Write(part)
			more = crc.More(more, part)
			join, _ = crc.Join(join, crc.Sum(part), len(part))
		}
		if want := crc.Sum(b); d.Sum() != want || more != want || join != want {
			t.Errorf("parts of %d: %x, %x, %x; want %x", size, d.Sum(), more, join, want)
		}
	}
}

// burst turns the bits of a pattern, its lowest at the place bit.
func burst(b []byte, bit int, pattern uint32) []byte {
	b = slices.Clone(b)
	for i := range 32 {
		if pattern>>i&1 == 1 {
			b[(bit+i)/8] ^= 1 << ((bit + i) % 8)
		}
	}
	return b
}

// patterns are bursts: of one bit, of all 32, of two far apart, and others.
func patterns() []uint32 {
	l := append(spread(200, 1), math.MaxUint32, 0xedb88320, 0xdb710641, 0x80000001)
	for i := range 32 {
		l = append(l, 1<<i, 1<<i|1, math.MaxUint32>>i, math.MaxUint32<<i)
	}
	return l
}

// P2.3: from either end to the other.
func TestBursts(t *testing.T) {
	for _, size := range []int{0, 1, 2, 5, 40} {
		for _, b := range [][]byte{make([]byte, size), text(size, 7), bytes.Repeat([]byte{255}, size)} {
			sealed := crc.Seal(b)
			for bit := range 8*len(sealed) - 31 {
				for _, pattern := range patterns() {
					if got, err := crc.Open(burst(sealed, bit, pattern)); len(got) != 0 || err != api.ErrCrcSum {
						t.Errorf("% x, %x turned at %d: % x, %d", sealed, pattern, bit, got, err)
					}
				}
			}
		}
	}
}

// P2.3: one bit, at each place of a long text.
func TestOneBit(t *testing.T) {
	sealed := crc.Seal(text(700, 8))
	for bit := range 8 * len(sealed) {
		sealed[bit/8] ^= 1 << (bit % 8)
		checkOpen(t, sealed, nil, api.ErrCrcSum)
		sealed[bit/8] ^= 1 << (bit % 8)
	}
	checkOpen(t, sealed, text(700, 8), api.OK)
}

// P2.4: whatever stands at a place is the one way to that text's sum.
func TestFourBytesDo(t *testing.T) {
	for _, size := range []int{4, 5, 9, 21} {
		for at := range size - 3 {
			for _, four := range registers() {
				b := text(size, 9)
				copy(b[at:], []byte{byte(four), byte(four >> 8), byte(four >> 16), byte(four >> 24)})
				other := burst(b, 8*at, 0xa5a5a5a5^four)
				if p, err := crc.Patch(other, at, crc.Sum(b)); !bytes.Equal(p, b) || err != api.OK {
					t.Errorf("Patch of % x at %d: % x, %d; want % x", other, at, p, err, b)
				}
			}
		}
	}
}

// P2.4: by P2.5 no two ways have the same sum, if no bits that are turned, of the 32, leave it as it is: that is so if what each does to it can be cleared to its own highest bit.
func TestNoTwoWays(t *testing.T) {
	b := text(12, 10)
	for at := range len(b) - 3 {
		var by [32]uint32
		for i := range 32 {
			change := crc.Sum(burst(b, 8*at, 1<<i)) ^ crc.Sum(b)
			for change != 0 && by[bits.Len32(change)-1] != 0 {
				change ^= by[bits.Len32(change)-1]
			}
			if change == 0 {
				t.Fatalf("place %d: the bit %d does what those below it do", at, i)
			}
			by[bits.Len32(change)-1] = change
		}
	}
}

// P2.5.
func TestByXor(t *testing.T) {
	for _, size := range []int{0, 1, 2, 3, 4, 5, 31, 32, 33, 1000} {
		for seed := range uint64(10) {
			x, y, z := text(size, seed), text(size, seed+100), text(size, seed*seed+7)
			all := make([]byte, size)
			for i := range all {
				all[i] = x[i] ^ y[i] ^ z[i]
			}
			if got, want := crc.Sum(all), crc.Sum(x)^crc.Sum(y)^crc.Sum(z); got != want {
				t.Errorf("of %d bytes: %x, want %x", size, got, want)
			}
		}
	}
}

// P3: what is handed in is not changed, nor its spare room.
func TestHandedIn(t *testing.T) {
	room := append(crc.Seal([]byte("a text")), 1, 2, 3, 4, 5, 6, 7, 8)
	kept := slices.Clone(room)
	d := crc.New()
	for size := range len(room) + 1 {
		b := room[:size]
		crc.Sum(b)
		crc.More(5, b)
		crc.Seal(b)
		crc.Open(b)
		d.Write(b)
		for at := range size + 1 {
			crc.Patch(b, at, 0x600df00d)
		}
		if !bytes.Equal(room, kept) {
			t.Fatalf("the first %d of % x became % x", size, kept, room)
		}
	}
}

// P3: what is handed in is not kept.
func TestNotKept(t *testing.T) {
	b := []byte("1234")
	d := crc.New()
	d.Write(b)
	clear(b)
	d.Write([]byte("56789"))
	if d.Sum() != 0xcbf43926 || d.Len() != 9 {
		t.Errorf("%x, %d", d.Sum(), d.Len())
	}
}

// P3: what comes out is new memory, its spare room too.
func TestComesOutNew(t *testing.T) {
	for size := range 12 {
		b := slices.Grow(text(size, 11), 20)
		kept := slices.Clone(b)
		sealed := crc.Seal(b)
		keptSealed := slices.Clone(sealed)
		scribble(sealed)
		opened, _ := crc.Open(keptSealed)
		scribble(opened)
		patched, _ := crc.Patch(b, 0, 5)
		scribble(patched)
		if !bytes.Equal(b, kept) || !bytes.Equal(b[size:size+20], make([]byte, 20)) {
			t.Errorf("% x became % x", kept, b[:size+20])
		}
		if again := crc.Seal(b); !bytes.Equal(again, keptSealed) {
			t.Errorf("Seal again: % x, want % x", again, keptSealed)
		}
		checkOpen(t, keptSealed, kept, api.OK)
	}
}

// scribble writes over a list and its spare room.
func scribble(b []byte) {
	b = b[:cap(b)]
	for i := range b {
		b[i] ^= 0x5a
	}
}
