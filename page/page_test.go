package page_test

import (
	"bytes"
	"hash/crc32"
	"math"
	"slices"
	"testing"

	"keelson/api"
	"keelson/page"
)

// beyond is what no ref is; some of it is one again, if only its lowest one, two or
// four bytes are looked at.
var beyond = []int{
	-2, -3, -15, -255, -256, -4095, -4096, -4097, -65536, -1 << 31, -1<<31 - 1, -1<<32 - 1, -1 << 32, -1<<32 + 1, -1<<62 + 24,
	4096, 4097, 8191, 65535, 65536, 1 << 24, 1<<31 - 1, 1 << 31, 1<<31 + 5, 1<<32 - 2, 1<<32 - 1, 1 << 32, 1<<32 + 1, 1<<33 - 1,
	1<<40 + 8, math.MaxInt, math.MaxInt - 1, math.MinInt, math.MinInt + 1, math.MinInt + 24,
}

// edges are refs at the bounds of what one is, beside them and between.
var edges = []int{-1, 0, 1, 2, 127, 128, 254, 255, 256, 257, 511, 512, 2047, 2048, 4094, 4095}

// some is the refs of an ordinary page that is full.
func some() []int {
	return []int{5, -1, 0, 77, 4095, 258, 4094, 1, -1, 0, 2048, 4095, 13, 256, 3}
}

// filled is that many times that ref.
func filled(n, ref int) []int {
	return slices.Repeat([]int{ref}, n)
}

// with is the refs with that one in that place.
func with(refs []int, place, ref int) []int {
	l := slices.Clone(refs)
	l[place] = ref
	return l
}

// rest is the refs and, behind them, the 0s that a page of them has.
func rest(refs ...int) []int {
	return append(slices.Clone(refs), make([]int, 15-len(refs))...)
}

// several are pages of all kinds, each of them full.
func several() [][]int {
	l := [][]int{some(), rest(), filled(15, -1), filled(15, 4095), rest(1), with(rest(), 14, 1), rest(-1), with(rest(), 14, -1)}
	for k := range 8 {
		refs := rest()
		for i := range refs {
			refs[i] = edges[(k*7+i*3)%len(edges)]
		}
		l = append(l, refs)
	}
	return l
}

// withSum is the bytes with a sum behind them that holds.
func withSum(b []byte) []byte {
	sum := crc32.Checksum(b, crc32.MakeTable(crc32.Castagnoli))
	return append(bytes.Clone(b), byte(sum), byte(sum>>8), byte(sum>>16), byte(sum>>24))
}

// sector is 64 bytes that begin so, zeros behind them, with a sum that holds.
func sector(l ...byte) []byte {
	return withSum(append(bytes.Clone(l), make([]byte, 60-len(l))...))
}

// laid is a page's bytes by hand, also of refs that are none.
func laid(refs ...int) []byte {
	var b []byte
	for _, n := range refs {
		b = append(b, byte(n), byte(n>>8), byte(n>>16), byte(n>>24))
	}
	return sector(b...)
}

// encoded fails unless the refs have those bytes.
func encoded(t *testing.T, want []byte, refs ...int) {
	t.Helper()
	b, e := page.Encode(refs...)
	if !bytes.Equal(b, want) || e != api.OK {
		t.Errorf("Encode(%v): error %d\n got % x\nwant % x", refs, e, b, want)
	}
}

// refused fails unless the refs have no bytes.
func refused(t *testing.T, refs ...int) {
	t.Helper()
	b, e := page.Encode(refs...)
	if len(b) > 0 || e != api.ErrArg {
		t.Errorf("Encode(%v) of %d: got % x and error %d, want none and %d", refs[:min(len(refs), 20)], len(refs), b, e, api.ErrArg)
	}
}

// made is the bytes of refs.
func made(t *testing.T, refs ...int) []byte {
	t.Helper()
	b, e := page.Encode(refs...)
	if len(b) != 64 || e != api.OK {
		t.Fatalf("Encode(%v): got %d bytes and error %d, want 64 bytes", refs, len(b), e)
	}
	return b
}

// isThat fails unless Decode answers those refs.
func isThat(t *testing.T, what string, b []byte, want ...int) {
	t.Helper()
	refs, e := page.Decode(b)
	if !slices.Equal(refs, want) || e != api.OK {
		t.Errorf("Decode of %s (% x): got %v and error %d, want %v", what, b, refs, e, want)
	}
}

// isNone fails unless Decode refuses the bytes.
func isNone(t *testing.T, what string, b []byte) {
	t.Helper()
	refs, e := page.Decode(b)
	if len(refs) > 0 || e != api.ErrBad {
		t.Errorf("Decode of %s (%d bytes, % x): got %v and error %d, want none and %d",
			what, len(b), b[:min(len(b), 64)], refs, e, api.ErrBad)
	}
}

// turned is the bytes with some bits turned: the lowest bit of the pattern stands
// for bit at, in a row of bits that has the lowest one of each byte first.
func turned(b []byte, at int, pattern uint32) []byte {
	x := bytes.Clone(b)
	for ; pattern > 0; pattern >>= 1 {
		x[at/8] ^= byte(pattern&1) << (at % 8)
		at++
	}
	return x
}

// patterns are bits in a row, that many of them, the first and the last one turned:
// all of them, these two alone, and some between.
func patterns(n int) []uint32 {
	all := uint32(1<<n - 1)
	ends := uint32(1 | 1<<(n-1))
	return []uint32{all, ends, ends | 0x55555555&all, ends | 0x0F0F0F0F&all, ends | 0x9E3779B9&all, ends | 0x82F63B78&all}
}

func TestP10_1Example(t *testing.T) {
	b := made(t)
	if bytes.Equal(b, make([]byte, 64)) {
		t.Error("Encode() is 64 zeros")
	}
	isThat(t, "no refs", b, rest()...)
	isNone(t, "64 zeros", make([]byte, 64))
}

func TestP10_1Bytes(t *testing.T) {
	encoded(t, append(make([]byte, 60), 0x31, 0x05, 0x0b, 0x5a))
	encoded(t, []byte{
		0, 0, 0, 0, 255, 255, 255, 255, 255, 15, 0, 0, 2, 1, 0, 0,
		0, 0, 0, 0, 0, 0, 0, 0, 0, 0, 0, 0, 0, 0, 0, 0,
		0, 0, 0, 0, 0, 0, 0, 0, 0, 0, 0, 0, 0, 0, 0, 0,
		0, 0, 0, 0, 0, 0, 0, 0, 0, 0, 0, 0, 0xb3, 0x4f, 0x5e, 0xd0,
	}, 0, -1, 4095, 258)
	encoded(t, []byte{
		5, 0, 0, 0, 255, 255, 255, 255, 0, 0, 0, 0, 77, 0, 0, 0,
		255, 15, 0, 0, 2, 1, 0, 0, 254, 15, 0, 0, 1, 0, 0, 0,
		255, 255, 255, 255, 0, 0, 0, 0, 0, 8, 0, 0, 255, 15, 0, 0,
		13, 0, 0, 0, 0, 1, 0, 0, 3, 0, 0, 0, 0xcf, 0x6d, 0x63, 0x0c,
	}, some()...)
}

func TestP10_1Counts(t *testing.T) {
	for n := range 16 {
		refs := some()[:n]
		encoded(t, laid(refs...), refs...)
		isThat(t, "some refs", made(t, refs...), rest(refs...)...)
		for _, ref := range edges {
			encoded(t, laid(filled(n, ref)...), filled(n, ref)...)
			isThat(t, "some refs alike", made(t, filled(n, ref)...), rest(filled(n, ref)...)...)
		}
	}
	encoded(t, laid(), []int{}...)
	encoded(t, made(t), rest()...)
}

func TestP10_1TooMany(t *testing.T) {
	for n := 16; n < 100; n++ {
		for _, ref := range []int{0, 1, -1, 4095, 4096, -2} {
			refused(t, filled(n, ref)...)
		}
	}
	for _, n := range []int{255, 256, 256 + 15, 16384, 16385, 65536, 65536 + 15, 1 << 20} {
		refused(t, make([]int, n)...)
	}
	refused(t, append(some(), 0)...)
	refused(t, append(some(), 4096)...)
	refused(t, append(with(some(), 0, -2), 0)...)
}

func TestP10_1EachRef(t *testing.T) {
	for ref := -1; ref <= 4095; ref++ {
		encoded(t, laid(ref), ref)
		isThat(t, "one ref", made(t, ref), rest(ref)...)
		for _, place := range []int{0, 7, 14} {
			refs := with(some(), place, ref)
			encoded(t, laid(refs...), refs...)
			isThat(t, "a ref among others", made(t, refs...), refs...)
		}
	}
	for place := range 15 {
		for _, ref := range edges {
			for _, other := range several() {
				refs := with(other, place, ref)
				encoded(t, laid(refs...), refs...)
				isThat(t, "a ref at each place", made(t, refs...), refs...)
			}
		}
	}
}

// One that is no ref is refused at each place, the last one of few refs, too.
func TestP10_1OutOfBounds(t *testing.T) {
	for _, ref := range beyond {
		refused(t, ref)
		refused(t, filled(15, ref)...)
		for place := range 15 {
			for _, other := range several() {
				refused(t, with(other, place, ref)...)
			}
			refused(t, with(some(), place, ref)[:place+1]...)
		}
	}
	for ref := 4096; ref < 5*4096; ref++ {
		refused(t, ref)
		refused(t, -ref)
	}
	for ref := -4096; ref < -1; ref++ {
		refused(t, ref)
	}
}

func TestP10_1DecodedAsItWas(t *testing.T) {
	for _, refs := range several() {
		for n := range 16 {
			isThat(t, "what was encoded", made(t, refs[:n]...), rest(refs[:n]...)...)
		}
	}
	isThat(t, "bytes laid by hand", sector(), rest()...)
	isThat(t, "bytes laid by hand", sector(1, 0, 0, 0, 255, 255, 255, 255, 255, 15), rest(1, -1, 4095)...)
	isThat(t, "bytes laid by hand", laid(some()...), some()...)
	isThat(t, "bytes laid by hand", withSum(bytes.Repeat([]byte{255}, 60)), filled(15, -1)...)
	isThat(t, "bytes laid by hand", withSum(bytes.Repeat([]byte{255, 15, 0, 0}, 15)), filled(15, 4095)...)
	isThat(t, "bytes laid by hand", withSum(append(make([]byte, 56), 255, 15, 0, 0)), with(rest(), 14, 4095)...)
}

func TestP10_1OtherLengths(t *testing.T) {
	// The refs of a page of none are all 0, also if what is not there counts as 0.
	for _, refs := range [][]int{some(), rest()} {
		b := made(t, refs...)
		for n := range 300 {
			long := append(bytes.Clone(b), make([]byte, 300)...)[:n]
			if n == 64 {
				isThat(t, "64 bytes", long, refs...)
			} else {
				isNone(t, "a page cut, or zeros behind it", long)
			}
		}
		isNone(t, "two of them", append(bytes.Clone(b), b...))
		isNone(t, "one behind a byte", append([]byte{0}, b...))
		isNone(t, "one behind a sector", append(make([]byte, 64), b...))
		isNone(t, "as many as a row has", append(bytes.Clone(b), make([]byte, 65536-64)...))
		isNone(t, "more than a row has", append(bytes.Clone(b), make([]byte, 65537-64)...))
		isNone(t, "more by a page than a row has", append(bytes.Clone(b), make([]byte, 65536)...))
	}
	isNone(t, "nothing", nil)
	isNone(t, "no bytes", []byte{})
	isNone(t, "zeros", make([]byte, 64))
	isNone(t, "zeros, more than a row has", make([]byte, 70000))
}

func TestP10_1OtherLengthsWithSum(t *testing.T) {
	for _, refs := range [][]int{some(), rest()} {
		body := made(t, refs...)[:60]
		for n := range 60 {
			isNone(t, "fewer bytes with a sum", withSum(body[:n]))
			isNone(t, "more bytes with a sum", withSum(append(bytes.Clone(body), make([]byte, n+1)...)))
		}
		isNone(t, "a sector more with a sum", withSum(append(bytes.Clone(body), make([]byte, 64)...)))
	}
}

func TestP10_1OtherSum(t *testing.T) {
	for _, refs := range [][]int{some(), rest(), filled(15, -1)} {
		b := made(t, refs...)
		for i := 60; i < 64; i++ {
			for x := 1; x < 256; x++ {
				other := bytes.Clone(b)
				other[i] ^= byte(x)
				isNone(t, "another sum", other)
			}
		}
		isNone(t, "a sum of zeros", append(bytes.Clone(b[:60]), 0, 0, 0, 0))
		isNone(t, "a sum turned", append(bytes.Clone(b[:60]), ^b[60], ^b[61], ^b[62], ^b[63]))
		isNone(t, "a sum with the greatest byte first", append(bytes.Clone(b[:60]), b[63], b[62], b[61], b[60]))
	}
	isNone(t, "another page's sum", append(bytes.Clone(made(t, some()...)[:60]), made(t)[60:]...))
}

// Each byte ahead of the sum in turn is each value, and the sum holds: that is a
// page only if the number that it belongs to is a ref.
func TestP10_1EachByteWithSum(t *testing.T) {
	for _, refs := range [][]int{some(), rest(), filled(15, -1), filled(15, 4095)} {
		for i := range 60 {
			for x := range 256 {
				b := bytes.Clone(laid(refs...)[:60])
				b[i] = byte(x)
				n := int(b[i/4*4]) | int(b[i/4*4+1])<<8 | int(b[i/4*4+2])<<16 | int(b[i/4*4+3])<<24
				switch {
				case n < 4096:
					isThat(t, "another ref with its sum", withSum(b), with(refs, i/4, n)...)
				case n == 1<<32-1:
					isThat(t, "a ref of which nothing is said", withSum(b), with(refs, i/4, -1)...)
				default:
					isNone(t, "what is no ref, with its sum", withSum(b))
				}
			}
		}
	}
}

func TestP10_1WrongWithSum(t *testing.T) {
	for place := range 15 {
		for _, refs := range several() {
			for _, n := range beyond {
				if n = int(uint32(n)); n < 4096 || n == 1<<32-1 {
					continue
				}
				isNone(t, "a number that is no ref", laid(with(refs, place, n)...))
			}
		}
	}
	isNone(t, "MaxSectors", sector(0, 16))
	isNone(t, "one below -1", sector(254, 255, 255, 255))
	isNone(t, "-1 of three bytes", sector(255, 255, 255))
	isNone(t, "-1 of two bytes", sector(255, 255))
	isNone(t, "a sign alone", sector(0, 0, 0, 128))
	isNone(t, "the greatest byte first", sector(0, 0, 1, 2))
	isNone(t, "a superblock's sign", sector('K', 'S', 20, 8, 24))
	isNone(t, "a head's sign", sector('K', 'H', 0, 1, 0, 0, 0, 1))
}

func TestP10_1HandedIn(t *testing.T) {
	refs := append(some(), 7, 8, 9)
	kept := slices.Clone(refs)
	bytesOf := append(made(t, some()...), 9, 9, 9, 9)
	before := bytes.Clone(bytesOf)
	encoded(t, before[:64], refs[:15]...)
	encoded(t, laid(refs[:3]...), refs[:3]...)
	refused(t, refs...)
	isThat(t, "bytes with spare room", bytesOf[:64], some()...)
	isNone(t, "bytes cut", bytesOf[:63])
	if !slices.Equal(refs, kept) || !bytes.Equal(bytesOf, before) {
		t.Errorf("what was handed in was changed: %v, % x", refs, bytesOf)
	}
}

func TestP10_1AnswersAreNewMemory(t *testing.T) {
	refs := some()
	one, other := made(t, refs...), made(t, refs...)
	clear(one[:cap(one)])
	clear(refs)
	if want := laid(some()...); !bytes.Equal(other, want) || !bytes.Equal(made(t, some()...), want) {
		t.Error("two answers of Encode share their bytes")
	}
	first, _ := page.Decode(other)
	second, _ := page.Decode(other)
	clear(first[:cap(first)])
	if !slices.Equal(second, some()) || !bytes.Equal(other, laid(some()...)) {
		t.Error("two answers of Decode share their refs")
	}
	clear(other)
	if !slices.Equal(second, some()) {
		t.Error("an answer of Decode shares what was handed in")
	}
}

func TestP10_2OneBit(t *testing.T) {
	for _, refs := range several() {
		b := made(t, refs...)
		for at := range 480 {
			isNone(t, "one bit turned", turned(b, at, 1))
		}
	}
}

func TestP10_2BitsInARow(t *testing.T) {
	for _, refs := range [][]int{some(), rest(), filled(15, -1), filled(15, 4095)} {
		b := made(t, refs...)
		for n := 2; n <= 32; n++ {
			for at := 0; at+n <= 480; at++ {
				for _, p := range patterns(n) {
					isNone(t, "bits in a row turned", turned(b, at, p))
				}
			}
		}
	}
}

// A turned page whose numbers are all refs is none either: only the sum tells.
func TestP10_2RefsTurned(t *testing.T) {
	b := made(t, some()...)
	for place := range 15 {
		if some()[place] == -1 {
			continue
		}
		for p := uint32(1); p < 4096; p++ {
			isNone(t, "a ref turned", turned(b, 32*place, p))
		}
	}
	for place := range 15 {
		isNone(t, "a -1 that was 0", turned(made(t), 32*place, 1<<32-1))
		isNone(t, "a 0 that was -1", turned(made(t, filled(15, -1)...), 32*place, 1<<32-1))
		for ref := range uint32(4096) {
			isNone(t, "a ref that was -1", turned(made(t, filled(15, -1)...), 32*place, ^ref))
		}
	}
}
