package crc_test

import (
	"bytes"
	"hash/crc32"
	"math"
	"testing"

	"keelson/api"
	"keelson/crc"
)

// two32 is how many sums there are.
const two32 = 1 << 32

// is fails unless a sum is that one.
func is(t *testing.T, what string, got, want int) {
	t.Helper()
	if got != want {
		t.Errorf("%s: got %#x, want %#x", what, got, want)
	}
}

// known is the library's CRC-32C, which is worked out by tables.
func known(b []byte) int {
	return int(crc32.Checksum(b, crc32.MakeTable(crc32.Castagnoli)))
}

// counted is so many bytes that differ from those beside them, by a seed.
func counted(size, seed int) []byte {
	b := make([]byte, size)
	x := uint32(seed)
	for i := range b {
		x = x*1664525 + 1013904223
		b[i] = byte(x >> 24)
	}
	return b
}

// flip turns one bit; a byte's lowest bit is the first one of it.
func flip(b []byte, bit int) {
	b[bit/8] ^= 1 << (bit % 8)
}

func TestP2_1Example(t *testing.T) {
	is(t, "123456789", crc.Sum([]byte("123456789")), 0xE3069283)
}

func TestP2_1Published(t *testing.T) {
	// The sums of RFC 3720, B.4.
	rise, fall := make([]byte, 32), make([]byte, 32)
	for i := range 32 {
		rise[i], fall[i] = byte(i), byte(31-i)
	}
	is(t, "32 zeros", crc.Sum(make([]byte, 32)), 0x8A9136AA)
	is(t, "32 ones", crc.Sum(bytes.Repeat([]byte{255}, 32)), 0x62A8AB43)
	is(t, "rising", crc.Sum(rise), 0x46DD794E)
	is(t, "falling", crc.Sum(fall), 0x113FDB5C)
	is(t, "one a", crc.Sum([]byte("a")), 0xC1D04330)
	is(t, "one zero", crc.Sum([]byte{0}), 0x527D5351)
}

func TestP2_1NoBytes(t *testing.T) {
	is(t, "no parts", crc.Sum(), 0)
	is(t, "no parts, as a list", crc.Sum([][]byte{}...), 0)
	is(t, "nil", crc.Sum(nil), 0)
	is(t, "an empty part", crc.Sum([]byte{}), 0)
	is(t, "several empty parts", crc.Sum(nil, []byte{}, nil), 0)
}

func TestP2_1EachByte(t *testing.T) {
	for x := range 256 {
		one := []byte{byte(x)}
		is(t, "one byte", crc.Sum(one), known(one))
		for y := range 256 {
			two := []byte{byte(x), byte(y)}
			is(t, "two bytes", crc.Sum(two), known(two))
		}
	}
}

func TestP2_1Sizes(t *testing.T) {
	for size := range 300 {
		b := counted(size, size)
		is(t, "counted bytes", crc.Sum(b), known(b))
	}
	for _, size := range []int{4096, 65535, 65536, 65537, 1 << 20} {
		b := counted(size, size)
		is(t, "many bytes", crc.Sum(b), known(b))
	}
}

func TestP2_1Parts(t *testing.T) {
	b := counted(40, 3)
	want := known(b)
	for i := range len(b) + 1 {
		is(t, "two parts", crc.Sum(b[:i], b[i:]), want)
		for j := i; j <= len(b); j++ {
			is(t, "three parts", crc.Sum(b[:i], b[i:j], b[j:]), want)
			is(t, "empty parts between", crc.Sum(nil, b[:i], []byte{}, b[i:j], nil, b[j:], []byte{}), want)
		}
	}
	var each [][]byte
	for i := range b {
		each = append(each, b[i:i+1])
	}
	is(t, "a part a byte", crc.Sum(each...), want)
}

func TestP2_1OrderOfParts(t *testing.T) {
	a, b := []byte("123"), []byte("456789")
	is(t, "in order", crc.Sum(a, b), 0xE3069283)
	is(t, "the other way round", crc.Sum(b, a), known([]byte("456789123")))
	if crc.Sum(b, a) == crc.Sum(a, b) {
		t.Error("parts turned round have one sum")
	}
}

func TestP2_1Range(t *testing.T) {
	low, high := 0, 0
	for seed := range 1000 {
		sum := crc.Sum(counted(9, seed))
		if sum < 0 || sum > api.MaxSum {
			t.Fatalf("a sum of %#x", sum)
		}
		if sum > api.MaxNum {
			high++
		} else {
			low++
		}
	}
	if low == 0 || high == 0 {
		t.Errorf("%d sums below 2^31, %d above", low, high)
	}
	// Four bytes reach each sum: these, the least and the greatest.
	is(t, "the least sum", crc.Sum(reach(0)), 0)
	is(t, "the greatest sum", crc.Sum(reach(api.MaxSum)), api.MaxSum)
}

// reach is four bytes whose sum is that one: the register is driven back over
// 32 bits 0, which leaves what the bytes and the first register xored must be.
func reach(sum int) []byte {
	register := ^uint32(sum)
	for range 32 {
		if register>>31 == 1 {
			register = (register^0x82F63B78)<<1 | 1
		} else {
			register <<= 1
		}
	}
	x := ^register
	return []byte{byte(x), byte(x >> 8), byte(x >> 16), byte(x >> 24)}
}

func TestP2_1LeavesArguments(t *testing.T) {
	whole := counted(32, 5)
	was := bytes.Clone(whole)
	parts := [][]byte{whole[0:8], whole[8:12], nil, whole[20:24]}
	want := crc.Sum(parts[:2]...)
	is(t, "again", crc.Sum(parts[:2]...), want)
	is(t, "of a piece of a list", want, known(whole[:12]))
	crc.Sum(parts...)
	crc.More(want, whole[4:9])
	if !bytes.Equal(whole, was) {
		t.Errorf("bytes that were handed in changed: %v", whole)
	}
	if len(parts[0]) != 8 || len(parts[1]) != 4 || parts[2] != nil || len(parts[3]) != 4 {
		t.Errorf("a list that was handed in changed: %v", parts)
	}
}

func TestP2_2More(t *testing.T) {
	b := counted(100, 7)
	for i := range len(b) + 1 {
		is(t, "the rest behind a part", crc.More(crc.Sum(b[:i]), b[i:]), known(b))
		is(t, "all of a part", crc.More(0, b[:i]), known(b[:i]))
	}
	sum := 0
	for i := range b {
		sum = crc.More(sum, b[i:i+1])
		is(t, "a byte more", sum, known(b[:i+1]))
	}
}

func TestP2_2NoMore(t *testing.T) {
	for _, sum := range sums() {
		is(t, "nil behind a sum", crc.More(sum, nil), sum)
		is(t, "no bytes behind a sum", crc.More(sum, []byte{}), sum)
	}
}

// sums is the edges of what a sum is, and some between.
func sums() []int {
	l := []int{0, 1, 2, api.MaxNum - 1, api.MaxNum, api.MaxNum + 1, api.MaxNum + 2, api.MaxSum - 1, api.MaxSum}
	for seed := range 50 {
		l = append(l, known(counted(6, seed)))
	}
	return l
}

func TestP2_2EachSum(t *testing.T) {
	// Every sum is one of some bytes: More goes on from it as these bytes would.
	b := counted(11, 9)
	for _, sum := range sums() {
		a := reach(sum)
		is(t, "four bytes that have a sum", known(a), sum)
		is(t, "more behind them", crc.More(sum, b), known(append(a, b...)))
	}
}

func TestP2_2Modulo(t *testing.T) {
	b := counted(13, 11)
	for _, sum := range sums() {
		want := known(append(reach(sum), b...))
		for _, times := range []int{1, 2, 3, 5, 255, 65536, 1<<31 - 1} {
			is(t, "above 2^32 - 1", crc.More(sum+times*two32, b), want)
			is(t, "below 0", crc.More(sum-times*two32, b), want)
			is(t, "above 2^32 - 1, and none", crc.More(sum+times*two32, nil), sum)
			is(t, "below 0, and none", crc.More(sum-times*two32, nil), sum)
		}
	}
}

func TestP2_2ModuloEdges(t *testing.T) {
	for _, e := range []struct{ sum, rest int }{
		{-1, api.MaxSum},
		{-2, api.MaxSum - 1},
		{-api.MaxSum, 1},
		{-two32, 0},
		{-two32 - 1, api.MaxSum},
		{two32, 0},
		{two32 + 1, 1},
		{2*two32 - 1, api.MaxSum},
		{math.MaxInt, api.MaxSum},
		{math.MaxInt - api.MaxSum, 0},
		{math.MinInt, 0},
		{math.MinInt + 1, 1},
		{math.MinInt + api.MaxSum, api.MaxSum},
	} {
		b := []byte{1, 2, 3}
		is(t, "none behind it", crc.More(e.sum, nil), e.rest)
		is(t, "some behind it", crc.More(e.sum, b), known(append(reach(e.rest), b...)))
	}
}

func TestP2_3OneToFourBits(t *testing.T) {
	// Short runs, each of them, at each place.
	b := counted(24, 13)
	was := crc.Sum(b)
	for from := range len(b) * 8 {
		for run := 1; run < 16; run++ {
			x := bytes.Clone(b)
			if turnRun(x, from, run) && crc.Sum(x) == was {
				t.Errorf("bits %#x turned from %d on: the same sum", run, from)
			}
		}
	}
}

// turnRun turns the bits of b from that one on that are 1 in run, its lowest bit
// first; false, and nothing, if they do not lie within b.
func turnRun(b []byte, from, run int) bool {
	for bit := range 32 {
		if run>>bit&1 == 1 && from+bit >= len(b)*8 {
			return false
		}
	}
	for bit := range 32 {
		if run>>bit&1 == 1 {
			flip(b, from+bit)
		}
	}
	return true
}

func TestP2_3LongRuns(t *testing.T) {
	for _, b := range [][]byte{make([]byte, 20), bytes.Repeat([]byte{255}, 20), counted(20, 17)} {
		was := crc.Sum(b)
		for from := range len(b) * 8 {
			for size := 1; size <= 32; size++ {
				for _, inner := range []int{0, 0xFFFFFFFF, 0x55555555, 0xAAAAAAAA, 0x82F63B78, 0x1EDC6F41, 0x9E3779B9} {
					// A run of that size: its first and its last bit are turned.
					run := inner&(1<<size-1) | 1 | 1<<(size-1)
					x := bytes.Clone(b)
					if turnRun(x, from, run) && crc.Sum(x) == was {
						t.Errorf("bits %#x turned from %d on: the same sum", run, from)
					}
				}
			}
		}
	}
}

func TestP2_3EachRun(t *testing.T) {
	// What is turned in a sum is, bit by bit of the run, what each of them alone
	// turns, xored. So no run of 32 bits is lost, if none of these 32 turns is
	// the others' xored: there are too many runs to go through one by one.
	b := counted(72, 19)
	was := crc.Sum(b)
	for from := range len(b)*8 - 31 {
		var turns [32]int
		for bit := range 32 {
			x := bytes.Clone(b)
			flip(x, from+bit)
			turns[bit] = crc.Sum(x) ^ was
		}
		xorsUp(t, b, from, turns)
		if n := rank(turns); n != 32 {
			t.Errorf("32 bits from %d on: %d of them turn a sum by themselves", from, n)
		}
	}
}

// xorsUp fails unless runs turn the sum by what their bits alone turn, xored.
func xorsUp(t *testing.T, b []byte, from int, turns [32]int) {
	t.Helper()
	for _, run := range []int{3, 0x80000001, 0xFFFFFFFF, 0x9E3779B9, 0x55555555} {
		want := crc.Sum(b)
		for bit := range 32 {
			if run>>bit&1 == 1 {
				want ^= turns[bit]
			}
		}
		x := bytes.Clone(b)
		turnRun(x, from, run)
		is(t, "a run's bits xored", crc.Sum(x), want)
	}
}

// rank is how many of the numbers are none of the others' xored.
func rank(l [32]int) int {
	n := 0
	for bit := range 32 {
		for i := n; i < 32; i++ {
			if l[i]>>bit&1 == 0 {
				continue
			}
			l[n], l[i] = l[i], l[n]
			for j := n + 1; j < 32; j++ {
				if l[j]>>bit&1 == 1 {
					l[j] ^= l[n]
				}
			}
			n++
			break
		}
	}
	return n
}

func TestP2_3AcrossParts(t *testing.T) {
	b := counted(16, 23)
	was := crc.Sum(b)
	for from := range len(b)*8 - 31 {
		x := bytes.Clone(b)
		turnRun(x, from, 0xFFFFFFFF)
		for i := range len(b) + 1 {
			if crc.Sum(x[:i], x[i:]) == was {
				t.Errorf("32 bits turned from %d on, parts cut at %d: the same sum", from, i)
			}
		}
	}
}
