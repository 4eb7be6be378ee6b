package super_test

import (
	"bytes"
	"hash/crc32"
	"math"
	"testing"

	"keelson/api"
	"keelson/geom"
	"keelson/super"
)

// far is what no number of a superblock is; some of it is one again, if only its
// lowest one or four bytes are looked at.
var far = []int{
	-1, -2, -20, -128, -192, -232, -248, -256, 1 << 31, 1<<31 + 3, 1 << 32, 1<<32 + 20, 1<<32 + 24, 1<<40 + 8,
	1<<63 - 1<<5, -1 << 31, -1<<32 + 3, -1<<62 + 24, math.MaxInt, math.MaxInt - 1, math.MinInt, math.MinInt + 1, math.MinInt + 24,
}

// of is a superblock of these numbers.
func of(blocks, segs, size, id, mount int) api.Super {
	return api.Super{Config: api.Config{Blocks: blocks, Segs: segs, Len: size}, ID: id, Mount: mount}
}

// some is an ordinary superblock.
func some() api.Super {
	return of(20, 8, 24, 258, 3)
}

// edges are superblocks with each number at both ends of its bounds, beside them
// and between.
func edges() []api.Super {
	nums := []int{1, 2, 255, 256, 65536, 1 << 24, 1<<31 - 2, 1<<31 - 1}
	var l []api.Super
	for _, blocks := range []int{1, 2, 20, 63, 64} {
		for _, segs := range []int{8, 9, 31, 32} {
			for _, size := range []int{24, 25, 63, 64} {
				for _, id := range append(nums, 0) {
					for _, mount := range nums {
						l = append(l, of(blocks, segs, size, id, mount))
					}
				}
			}
		}
	}
	return l
}

// withSum is the bytes with a sum behind them that holds.
func withSum(b []byte) []byte {
	sum := crc32.Checksum(b, crc32.MakeTable(crc32.Castagnoli))
	return append(bytes.Clone(b), byte(sum), byte(sum>>8), byte(sum>>16), byte(sum>>24))
}

// sector is 64 bytes that begin so, zeros behind them, with a sum that holds.
func sector(l ...byte) []byte {
	return withSum(append(bytes.Clone(l), make([]byte, 60-len(l))...))
}

// encoded is the bytes of a superblock that may be.
func encoded(t *testing.T, s api.Super) []byte {
	t.Helper()
	b, e := super.Encode(s)
	if len(b) != 64 || e != api.OK {
		t.Fatalf("Encode(%v): got %d bytes and error %d, want 64 bytes", s, len(b), e)
	}
	return b
}

// isThat fails unless Decode answers that superblock.
func isThat(t *testing.T, what string, b []byte, want api.Super) {
	t.Helper()
	s, e := super.Decode(b)
	if s != want || e != api.OK {
		t.Errorf("Decode of %s (% x): got %v and error %d, want %v", what, b, s, e, want)
	}
}

// isNone fails unless Decode refuses the bytes.
func isNone(t *testing.T, what string, b []byte) {
	t.Helper()
	s, e := super.Decode(b)
	if s != (api.Super{}) || e != api.ErrBad {
		t.Errorf("Decode of %s (%d bytes): got %v and error %d, want zeros and %d", what, len(b), s, e, api.ErrBad)
	}
}

// may fails unless a superblock may be, and has bytes.
func may(t *testing.T, s api.Super) {
	t.Helper()
	if !super.May(s) {
		t.Errorf("May(%v): got false", s)
	}
	encoded(t, s)
}

// mayNot fails unless a superblock may not be, and has no bytes.
func mayNot(t *testing.T, s api.Super) {
	t.Helper()
	b, e := super.Encode(s)
	if super.May(s) || len(b) > 0 || e != api.ErrArg {
		t.Errorf("%v: May %t, Encode %d bytes and error %d, want false, none and %d", s, super.May(s), len(b), e, api.ErrArg)
	}
}

// chosen fails unless Choose answers that.
func chosen(t *testing.T, what string, a, b []byte, want api.Super, place int) {
	t.Helper()
	s, p, e := super.Choose(a, b)
	if s != want || p != place || e != api.OK {
		t.Errorf("Choose of %s: got %v, %d and error %d, want %v, %d", what, s, p, e, want, place)
	}
}

// noneChosen fails unless Choose takes neither.
func noneChosen(t *testing.T, what string, a, b []byte) {
	t.Helper()
	s, p, e := super.Choose(a, b)
	if s != (api.Super{}) || p != 0 || e != api.ErrBad {
		t.Errorf("Choose of %s: got %v, %d and error %d, want zeros and %d", what, s, p, e, api.ErrBad)
	}
}

// turned is the bytes with some bits turned: the lowest bit of the pattern stands
// for bit at, in a row of bits that has the lowest one of each byte first.
func turned(b []byte, at int, pattern uint32) []byte {
	x := bytes.Clone(b)
	for ; pattern > 0; pattern >>= 1 {
		x[at/8] ^= byte(pattern&1) << (at % 8)
		at++
	}
	return x
}

// patterns are bits in a row, that many of them, the first and the last one turned:
// all of them, these two alone, and some between.
func patterns(n int) []uint32 {
	all := uint32(1<<n - 1)
	ends := uint32(1 | 1<<(n-1))
	return []uint32{all, ends, ends | 0x55555555&all, ends | 0x0F0F0F0F&all, ends | 0x9E3779B9&all, ends | 0x82F63B78&all}
}

func TestP5_1Bounds(t *testing.T) {
	for _, s := range edges() {
		may(t, s)
	}
	mayNot(t, api.Super{})
	mayNot(t, of(20, 8, 24, 0, 0))
}

func TestP5_1OutOfBounds(t *testing.T) {
	for _, n := range append(far, 0, 65, 255, 276) {
		mayNot(t, of(n, 8, 24, 258, 3))
	}
	for _, n := range append(far, 0, 7, 33, 255, 264) {
		mayNot(t, of(20, n, 24, 258, 3))
	}
	for _, n := range append(far, 0, 23, 65, 255, 280) {
		mayNot(t, of(20, 8, n, 258, 3))
	}
	for _, n := range far {
		mayNot(t, of(20, 8, 24, n, 3))
	}
	for _, n := range append(far, 0) {
		mayNot(t, of(20, 8, 24, 258, n))
	}
}

func TestP5_1ConfigAsGeometry(t *testing.T) {
	for blocks := -1; blocks <= 66; blocks++ {
		for segs := 6; segs <= 34; segs++ {
			for size := 22; size <= 66; size++ {
				s := of(blocks, segs, size, 0, 1)
				_, e := geom.New(s.Config)
				if super.May(s) != (e == api.OK) {
					t.Fatalf("May(%v): got %t, but a geometry's error is %d", s, super.May(s), e)
				}
			}
		}
	}
}

func TestP5_1Bytes(t *testing.T) {
	want := []byte{
		'K', 'S', 20, 8, 24, 2, 1, 0, 0, 3, 0, 0, 0, 0, 0, 0,
		0, 0, 0, 0, 0, 0, 0, 0, 0, 0, 0, 0, 0, 0, 0, 0,
		0, 0, 0, 0, 0, 0, 0, 0, 0, 0, 0, 0, 0, 0, 0, 0,
		0, 0, 0, 0, 0, 0, 0, 0, 0, 0, 0, 0, 0x1d, 0x15, 0xac, 0xe4,
	}
	if b := encoded(t, some()); !bytes.Equal(b, want) {
		t.Errorf("got  % x\nwant % x", b, want)
	}
}

func TestP5_1BytesAtEdges(t *testing.T) {
	for _, s := range edges() {
		id, mount := s.ID, s.Mount
		want := sector(
			'K', 'S', byte(s.Blocks), byte(s.Segs), byte(s.Len),
			byte(id), byte(id>>8), byte(id>>16), byte(id>>24),
			byte(mount), byte(mount>>8), byte(mount>>16), byte(mount>>24),
		)
		if b := encoded(t, s); !bytes.Equal(b, want) {
			t.Fatalf("%v:\n got % x\nwant % x", s, b, want)
		}
	}
}

func TestP5_1DecodedAsItWas(t *testing.T) {
	for _, s := range edges() {
		isThat(t, "what was encoded", encoded(t, s), s)
	}
	isThat(t, "bytes laid by hand", sector('K', 'S', 64, 32, 64, 255, 255, 255, 127, 1), of(64, 32, 64, 1<<31-1, 1))
	isThat(t, "bytes laid by hand", sector('K', 'S', 1, 8, 24, 0, 0, 0, 0, 255, 255, 255, 127), of(1, 8, 24, 0, 1<<31-1))
}

func TestP5_1OtherLengths(t *testing.T) {
	b := encoded(t, some())
	for n := range 200 {
		long := append(bytes.Clone(b), make([]byte, 200)...)[:n]
		if n == 64 {
			isThat(t, "64 bytes", long, some())
		} else {
			isNone(t, "a superblock cut, or zeros behind it", long)
		}
	}
	isNone(t, "nothing", nil)
	isNone(t, "two of them", append(bytes.Clone(b), b...))
	isNone(t, "one behind a byte", append([]byte{0}, b...))
	isNone(t, "zeros", make([]byte, 64))
	isNone(t, "as many as a row has", append(bytes.Clone(b), make([]byte, 65536-64)...))
	isNone(t, "more than a row has", append(bytes.Clone(b), make([]byte, 65537-64)...))
}

func TestP5_1OtherLengthsWithSum(t *testing.T) {
	body := encoded(t, some())[:60]
	for n := range 60 {
		isNone(t, "fewer bytes with a sum", withSum(body[:n]))
		isNone(t, "more bytes with a sum", withSum(append(bytes.Clone(body), make([]byte, n+1)...)))
	}
}

func TestP5_1OtherSum(t *testing.T) {
	b := encoded(t, some())
	for i := 60; i < 64; i++ {
		for x := 1; x < 256; x++ {
			other := bytes.Clone(b)
			other[i] ^= byte(x)
			isNone(t, "another sum", other)
		}
	}
	whole := withSum(make([]byte, 60))
	isNone(t, "zeros with their sum", whole)
	isNone(t, "bytes with the sum of zeros", append(bytes.Clone(b[:60]), whole[60:]...))
	isNone(t, "a sum with the greatest byte first", append(bytes.Clone(b[:60]), b[63], b[62], b[61], b[60]))
}

// Each byte ahead of the sum in turn is each value, and the sum holds: that is a
// superblock only if it is one of the numbers, and that number may be.
func TestP5_1EachByteWithSum(t *testing.T) {
	for i := range 60 {
		for x := range 256 {
			b := encoded(t, some())[:60]
			before := b[i]
			b[i] = byte(x)
			s := some()
			good := byte(x) == before
			switch i {
			case 2:
				s.Blocks, good = x, x >= 1 && x <= 64
			case 3:
				s.Segs, good = x, x >= 8 && x <= 32
			case 4:
				s.Len, good = x, x >= 24 && x <= 64
			case 5, 6, 7, 8:
				s.ID, good = s.ID+(x-int(before))<<(8*(i-5)), i < 8 || x < 128
			case 9, 10, 11, 12:
				s.Mount, good = s.Mount+(x-int(before))<<(8*(i-9)), (i < 12 || x < 128) && (i > 9 || x > 0)
			}
			if good {
				isThat(t, "another number with its sum", withSum(b), s)
			} else {
				isNone(t, "what no superblock has, with its sum", withSum(b))
			}
		}
	}
}

func TestP5_1WrongWithSum(t *testing.T) {
	isThat(t, "a superblock", sector('K', 'S', 20, 8, 24, 2, 1, 0, 0, 3), some())
	isNone(t, "no sign", sector(0, 0, 20, 8, 24, 2, 1, 0, 0, 3))
	isNone(t, "another sign", sector('K', 'R', 20, 8, 24, 2, 1, 0, 0, 3))
	isNone(t, "a sign turned round", sector('S', 'K', 20, 8, 24, 2, 1, 0, 0, 3))
	isNone(t, "small letters", sector('k', 's', 20, 8, 24, 2, 1, 0, 0, 3))
	isNone(t, "no numbers", sector('K', 'S'))
	isNone(t, "Mount 0", sector('K', 'S', 20, 8, 24, 2, 1, 0, 0))
	isNone(t, "Mount 2^31", sector('K', 'S', 20, 8, 24, 2, 1, 0, 0, 0, 0, 0, 128))
	isNone(t, "Mount 2^32 - 1", sector('K', 'S', 20, 8, 24, 2, 1, 0, 0, 255, 255, 255, 255))
	isNone(t, "ID 2^31", sector('K', 'S', 20, 8, 24, 0, 0, 0, 128, 3))
	isNone(t, "something behind", sector('K', 'S', 20, 8, 24, 2, 1, 0, 0, 3, 0, 0, 0, 1))
}

func TestP5_1HandedIn(t *testing.T) {
	all := append(encoded(t, some()), 9, 9, 9, 9)
	before := bytes.Clone(all)
	isThat(t, "bytes with spare room", all[:64], some())
	isNone(t, "bytes cut", all[:63])
	super.Choose(all[:64], all[:63])
	if !bytes.Equal(all, before) {
		t.Errorf("what was handed in was changed: % x", all)
	}
	one, other := encoded(t, some()), encoded(t, some())
	clear(one[:cap(one)])
	if !bytes.Equal(other, before[:64]) || !bytes.Equal(encoded(t, some()), before[:64]) {
		t.Error("two answers of Encode share their bytes")
	}
}

func TestP5_2Example(t *testing.T) {
	chosen(t, "zeros, and one of Mount 3", make([]byte, 64), encoded(t, some()), some(), 1)
}

func TestP5_2Mounts(t *testing.T) {
	mounts := []int{1, 2, 3, 127, 128, 255, 256, 257, 65535, 65536, 1 << 24, 1<<31 - 2, 1<<31 - 1}
	for _, left := range mounts {
		for _, right := range mounts {
			// The numbers but the Mount are lesser now in the chosen one, now in the other.
			a, b := of(20, 8, 24, 5, left), of(1, 9, 64, 4, right)
			if left >= right {
				chosen(t, "two", encoded(t, a), encoded(t, b), a, 0)
			} else {
				chosen(t, "two", encoded(t, a), encoded(t, b), b, 1)
			}
		}
	}
}

func TestP5_2LikeMounts(t *testing.T) {
	for _, mount := range []int{1, 3, 1<<31 - 1} {
		small, great := of(1, 8, 24, 0, mount), of(64, 32, 64, 1<<31-1, mount)
		chosen(t, "like Mounts", encoded(t, small), encoded(t, great), small, 0)
		chosen(t, "like Mounts", encoded(t, great), encoded(t, small), great, 0)
		chosen(t, "twice the same", encoded(t, great), encoded(t, great), great, 0)
	}
}

func TestP5_2OneAlone(t *testing.T) {
	for _, s := range []api.Super{some(), of(1, 8, 24, 0, 1), of(64, 32, 64, 1<<31-1, 1<<31-1)} {
		b := encoded(t, s)
		for what, none := range nones(t) {
			chosen(t, "one ahead of "+what, b, none, s, 0)
			chosen(t, "one behind "+what, none, b, s, 1)
		}
	}
}

func TestP5_2Neither(t *testing.T) {
	for what, a := range nones(t) {
		for with, b := range nones(t) {
			noneChosen(t, what+" and "+with, a, b)
		}
	}
}

// nones are bytes that are no superblock; some have a great Mount.
func nones(t *testing.T) map[string][]byte {
	t.Helper()
	great := encoded(t, of(20, 8, 24, 258, 1<<31-1))
	return map[string][]byte{
		"nothing":       nil,
		"zeros":         make([]byte, 64),
		"63 bytes":      great[:63],
		"65 bytes":      append(bytes.Clone(great), 0),
		"a turned bit":  turned(great, 77, 1),
		"a turned sum":  turned(great, 511, 1),
		"another sign":  sector('K', 'R', 20, 8, 24, 2, 1, 0, 0, 255, 255, 255, 127),
		"too great":     sector('K', 'S', 20, 8, 24, 2, 1, 0, 0, 0, 0, 0, 128),
		"no zeros":      sector('K', 'S', 20, 8, 24, 2, 1, 0, 0, 255, 255, 255, 127, 1),
		"Mount 0":       sector('K', 'S', 20, 8, 24, 2, 1, 0, 0),
		"too many segs": sector('K', 'S', 20, 33, 24, 2, 1, 0, 0, 255, 255, 255, 127),
	}
}

func TestP5_3OneBit(t *testing.T) {
	for _, s := range []api.Super{some(), of(1, 8, 24, 0, 1), of(64, 32, 64, 1<<31-1, 1<<31-1)} {
		b := encoded(t, s)
		for at := range 480 {
			isNone(t, "one bit turned", turned(b, at, 1))
		}
	}
}

func TestP5_3BitsInARow(t *testing.T) {
	b := encoded(t, some())
	for n := 2; n <= 32; n++ {
		for at := 0; at+n <= 480; at++ {
			for _, p := range patterns(n) {
				isNone(t, "bits in a row turned", turned(b, at, p))
			}
		}
	}
}

// A turned superblock whose numbers and sign are those of another one is none
// either: only the sum tells.
func TestP5_3NumbersTurned(t *testing.T) {
	b := encoded(t, some())
	for p := uint32(1); p < 1<<16; p++ {
		isNone(t, "an ID turned", turned(b, 40, p))
		isNone(t, "a Mount turned", turned(b, 72, p))
	}
	for p := uint32(1); p < 1<<8; p++ {
		isNone(t, "Blocks turned", turned(b, 16, p))
		isNone(t, "Segs turned", turned(b, 24, p))
		isNone(t, "Len turned", turned(b, 32, p))
	}
}
