package head_test

import (
	"bytes"
	"hash/crc32"
	"math"
	"testing"

	"keelson/api"
	"keelson/head"
)

// far is what no number of a head is; some of it is one again, if only its lowest
// one or four bytes are looked at.
var far = []int{
	-1, -2, -31, -128, -255, -256, 1 << 32, 1<<32 + 1, 1<<32 + 31, 1<<33 - 1, 1<<40 + 8, 1<<63 - 1<<5,
	-1 << 31, -1 << 32, -1<<32 + 3, -1<<62 + 24, math.MaxInt, math.MaxInt - 1, math.MinInt, math.MinInt + 1, math.MinInt + 24,
}

// of is a head of these numbers.
func of(seg, mount, lsn, prev int) api.Head {
	return api.Head{Seg: seg, Mount: mount, LSN: lsn, Prev: prev}
}

// some is an ordinary head.
func some() api.Head {
	return of(31, 2, 258, 1<<32-1)
}

// low and high are the heads whose numbers are all at the one, or the other, end of
// their bounds.
func low() api.Head  { return of(0, 1, 1, 0) }
func high() api.Head { return of(31, 1<<31-1, 1<<31-1, 1<<32-1) }

// edges are heads with each number at both ends of its bounds, beside them and
// between.
func edges() []api.Head {
	nums := []int{1, 2, 255, 256, 65536, 1 << 24, 1<<31 - 2, 1<<31 - 1}
	var l []api.Head
	for _, seg := range []int{0, 1, 7, 30, 31} {
		for _, mount := range nums {
			for _, lsn := range nums {
				for _, prev := range append(nums, 0, 1<<31, 1<<31+1, 1<<32-2, 1<<32-1) {
					l = append(l, of(seg, mount, lsn, prev))
				}
			}
		}
	}
	return l
}

// withSum is the bytes with a sum behind them that holds.
func withSum(b []byte) []byte {
	sum := crc32.Checksum(b, crc32.MakeTable(crc32.Castagnoli))
	return append(bytes.Clone(b), byte(sum), byte(sum>>8), byte(sum>>16), byte(sum>>24))
}

// sector is 64 bytes that begin so, zeros behind them, with a sum that holds.
func sector(l ...byte) []byte {
	return withSum(append(bytes.Clone(l), make([]byte, 60-len(l))...))
}

// laid is a head's bytes by hand, also of one that may not be.
func laid(h api.Head) []byte {
	return sector(
		'K', 'H', byte(h.Seg),
		byte(h.Mount), byte(h.Mount>>8), byte(h.Mount>>16), byte(h.Mount>>24),
		byte(h.LSN), byte(h.LSN>>8), byte(h.LSN>>16), byte(h.LSN>>24),
		byte(h.Prev), byte(h.Prev>>8), byte(h.Prev>>16), byte(h.Prev>>24),
	)
}

// encoded is the bytes of a head that may be.
func encoded(t *testing.T, h api.Head) []byte {
	t.Helper()
	b, e := head.Encode(h)
	if len(b) != 64 || e != api.OK {
		t.Fatalf("Encode(%v): got %d bytes and error %d, want 64 bytes", h, len(b), e)
	}
	return b
}

// isThat fails unless Decode answers that head.
func isThat(t *testing.T, what string, b []byte, want api.Head) {
	t.Helper()
	h, e := head.Decode(b)
	if h != want || e != api.OK {
		t.Errorf("Decode of %s (% x): got %v and error %d, want %v", what, b, h, e, want)
	}
}

// isNone fails unless Decode refuses the bytes.
func isNone(t *testing.T, what string, b []byte) {
	t.Helper()
	h, e := head.Decode(b)
	if h != (api.Head{}) || e != api.ErrBad {
		t.Errorf("Decode of %s (%d bytes): got %v and error %d, want zeros and %d", what, len(b), h, e, api.ErrBad)
	}
}

// may fails unless a head may be, and has bytes.
func may(t *testing.T, h api.Head) {
	t.Helper()
	if !head.May(h) {
		t.Errorf("May(%v): got false", h)
	}
	encoded(t, h)
}

// mayNot fails unless a head may not be, and has no bytes.
func mayNot(t *testing.T, h api.Head) {
	t.Helper()
	b, e := head.Encode(h)
	if head.May(h) || len(b) > 0 || e != api.ErrArg {
		t.Errorf("%v: May %t, Encode %d bytes and error %d, want false, none and %d", h, head.May(h), len(b), e, api.ErrArg)
	}
}

// own is the place that a head of these numbers stands at.
func own(h api.Head) api.Pos {
	return api.Pos{Seg: h.Seg, LSN: h.LSN, Prev: h.Prev, Mount: h.Mount}
}

// fits fails unless the bytes fit that place, or do not, as wanted.
func fits(t *testing.T, what string, b []byte, p api.Pos, want bool) {
	t.Helper()
	if head.Fits(b, p) != want {
		t.Errorf("Fits of %s (% x) and %v: got %t", what, b, p, !want)
	}
}

// turned is the bytes with some bits turned: the lowest bit of the pattern stands
// for bit at, in a row of bits that has the lowest one of each byte first.
func turned(b []byte, at int, pattern uint32) []byte {
	x := bytes.Clone(b)
	for ; pattern > 0; pattern >>= 1 {
		x[at/8] ^= byte(pattern&1) << (at % 8)
		at++
	}
	return x
}

// patterns are bits in a row, that many of them, the first and the last one turned:
// all of them, these two alone, and some between.
func patterns(n int) []uint32 {
	all := uint32(1<<n - 1)
	ends := uint32(1 | 1<<(n-1))
	return []uint32{all, ends, ends | 0x55555555&all, ends | 0x0F0F0F0F&all, ends | 0x9E3779B9&all, ends | 0x82F63B78&all}
}

func TestP8_1Bounds(t *testing.T) {
	for _, h := range edges() {
		may(t, h)
	}
	for seg := range 32 {
		may(t, of(seg, 2, 258, 3))
	}
	mayNot(t, api.Head{})
}

func TestP8_1OutOfBounds(t *testing.T) {
	for _, h := range []api.Head{some(), low(), high()} {
		for _, n := range append(far, 32, 33, 63, 64, 255, 256, 256+31, 1<<31) {
			mayNot(t, of(n, h.Mount, h.LSN, h.Prev))
		}
		for _, n := range append(far, 0, 1<<31, 1<<31+1, 1<<32-1) {
			mayNot(t, of(h.Seg, n, h.LSN, h.Prev))
			mayNot(t, of(h.Seg, h.Mount, n, h.Prev))
		}
		for _, n := range far {
			mayNot(t, of(h.Seg, h.Mount, h.LSN, n))
		}
	}
}

func TestP8_1Bytes(t *testing.T) {
	want := []byte{
		'K', 'H', 31, 2, 0, 0, 0, 2, 1, 0, 0, 255, 255, 255, 255, 0,
		0, 0, 0, 0, 0, 0, 0, 0, 0, 0, 0, 0, 0, 0, 0, 0,
		0, 0, 0, 0, 0, 0, 0, 0, 0, 0, 0, 0, 0, 0, 0, 0,
		0, 0, 0, 0, 0, 0, 0, 0, 0, 0, 0, 0, 0xd7, 0x52, 0xc1, 0x8d,
	}
	if b := encoded(t, some()); !bytes.Equal(b, want) {
		t.Errorf("got  % x\nwant % x", b, want)
	}
}

func TestP8_1BytesAtEdges(t *testing.T) {
	for _, h := range edges() {
		if b, want := encoded(t, h), laid(h); !bytes.Equal(b, want) {
			t.Fatalf("%v:\n got % x\nwant % x", h, b, want)
		}
	}
}

func TestP8_1DecodedAsItWas(t *testing.T) {
	for _, h := range edges() {
		isThat(t, "what was encoded", encoded(t, h), h)
	}
	isThat(t, "bytes laid by hand", sector('K', 'H', 0, 1, 0, 0, 0, 1), low())
	isThat(t, "bytes laid by hand", sector('K', 'H', 31, 255, 255, 255, 127, 255, 255, 255, 127, 255, 255, 255, 255), high())
	isThat(t, "bytes laid by hand", sector('K', 'H', 9, 4, 3, 2, 1, 8, 7, 6, 5, 12, 11, 10, 9), of(9, 0x01020304, 0x05060708, 0x090A0B0C))
}

func TestP8_1OtherLengths(t *testing.T) {
	// One of Prev 0 that is cut ahead of its Prev still tells all of its numbers, if
	// what is not there counts as 0.
	for _, h := range []api.Head{some(), low()} {
		b := encoded(t, h)
		for n := range 200 {
			long := append(bytes.Clone(b), make([]byte, 200)...)[:n]
			if n == 64 {
				isThat(t, "64 bytes", long, h)
			} else {
				isNone(t, "a head cut, or zeros behind it", long)
			}
		}
		isNone(t, "two of them", append(bytes.Clone(b), b...))
		isNone(t, "one behind a byte", append([]byte{0}, b...))
		isNone(t, "as many as a row has", append(bytes.Clone(b), make([]byte, 65536-64)...))
		isNone(t, "more than a row has", append(bytes.Clone(b), make([]byte, 65537-64)...))
	}
	isNone(t, "nothing", nil)
	isNone(t, "no bytes", []byte{})
	isNone(t, "zeros", make([]byte, 64))
}

func TestP8_1OtherLengthsWithSum(t *testing.T) {
	body := encoded(t, some())[:60]
	for n := range 60 {
		isNone(t, "fewer bytes with a sum", withSum(body[:n]))
		isNone(t, "more bytes with a sum", withSum(append(bytes.Clone(body), make([]byte, n+1)...)))
	}
}

func TestP8_1OtherSum(t *testing.T) {
	b := encoded(t, some())
	for i := 60; i < 64; i++ {
		for x := 1; x < 256; x++ {
			other := bytes.Clone(b)
			other[i] ^= byte(x)
			isNone(t, "another sum", other)
		}
	}
	whole := withSum(make([]byte, 60))
	isNone(t, "zeros with their sum", whole)
	isNone(t, "bytes with the sum of zeros", append(bytes.Clone(b[:60]), whole[60:]...))
	isNone(t, "a sum with the greatest byte first", append(bytes.Clone(b[:60]), b[63], b[62], b[61], b[60]))
}

// Each byte ahead of the sum in turn is each value, and the sum holds: that is a
// head only if it is one of the numbers, and that number may be.
func TestP8_1EachByteWithSum(t *testing.T) {
	for _, h := range []api.Head{some(), low(), high()} {
		for i := range 60 {
			for x := range 256 {
				b := encoded(t, h)[:60]
				by := x - int(b[i])
				b[i] = byte(x)
				other, good := h, by == 0
				switch {
				case i == 2:
					other.Seg, good = x, x <= 31
				case i >= 3 && i < 7:
					other.Mount += by << (8 * (i - 3))
					good = other.Mount >= 1 && other.Mount <= 1<<31-1
				case i >= 7 && i < 11:
					other.LSN += by << (8 * (i - 7))
					good = other.LSN >= 1 && other.LSN <= 1<<31-1
				case i >= 11 && i < 15:
					other.Prev, good = other.Prev+by<<(8*(i-11)), true
				}
				if good {
					isThat(t, "another number with its sum", withSum(b), other)
				} else {
					isNone(t, "what no head has, with its sum", withSum(b))
				}
			}
		}
	}
}

func TestP8_1WrongWithSum(t *testing.T) {
	isThat(t, "a head", sector('K', 'H', 31, 2, 0, 0, 0, 2, 1), of(31, 2, 258, 0))
	isNone(t, "no sign", sector(0, 0, 31, 2, 0, 0, 0, 2, 1))
	isNone(t, "a superblock's sign", sector('K', 'S', 31, 2, 0, 0, 0, 2, 1))
	isNone(t, "a record's sign", sector('K', 'R', 31, 2, 0, 0, 0, 2, 1))
	isNone(t, "a sign turned round", sector('H', 'K', 31, 2, 0, 0, 0, 2, 1))
	isNone(t, "small letters", sector('k', 'h', 31, 2, 0, 0, 0, 2, 1))
	isNone(t, "no numbers", sector('K', 'H'))
	isNone(t, "something at once behind", sector('K', 'H', 31, 2, 0, 0, 0, 2, 1, 0, 0, 0, 0, 0, 0, 1))
	isNone(t, "something at the end", withSum(append(encoded(t, some())[:59], 1)))
	for _, h := range []api.Head{
		of(32, 2, 258, 3), of(255, 2, 258, 3),
		of(31, 0, 258, 3), of(31, 1<<31, 258, 3), of(31, 1<<32-1, 258, 3),
		of(31, 2, 0, 3), of(31, 2, 1<<31, 3), of(31, 2, 1<<32-1, 3),
		of(0, 0, 0, 0),
	} {
		isNone(t, "numbers that may not be", laid(h))
	}
}

func TestP8_1HandedIn(t *testing.T) {
	all := append(encoded(t, some()), 9, 9, 9, 9)
	before := bytes.Clone(all)
	isThat(t, "bytes with spare room", all[:64], some())
	isNone(t, "bytes cut", all[:63])
	fits(t, "bytes with spare room", all[:64], own(some()), true)
	if !bytes.Equal(all, before) {
		t.Errorf("what was handed in was changed: % x", all)
	}
	one, other := encoded(t, some()), encoded(t, some())
	clear(one[:cap(one)])
	if !bytes.Equal(other, before[:64]) || !bytes.Equal(encoded(t, some()), before[:64]) {
		t.Error("two answers of Encode share their bytes")
	}
}

func TestP8_2Example(t *testing.T) {
	h := of(3, 5, 70, 800)
	p := own(h)
	p.LSN = 71
	fits(t, "another LSN", encoded(t, h), p, false)
}

func TestP8_2OwnPlace(t *testing.T) {
	for _, h := range edges() {
		fits(t, "its own place", encoded(t, h), own(h), true)
	}
	fits(t, "bytes laid by hand", sector('K', 'H', 3, 5, 0, 0, 0, 70, 0, 0, 0, 32, 3), own(of(3, 5, 70, 800)), true)
}

func TestP8_2Mounts(t *testing.T) {
	for _, h := range edges() {
		p := own(h)
		p.Mount = h.Mount - 1
		fits(t, "a place of the Mount before", encoded(t, h), p, true)
		p.Mount = h.Mount + 1
		fits(t, "a place of the Mount behind", encoded(t, h), p, false)
	}
	b := encoded(t, of(3, 5, 70, 800))
	p := api.Pos{Seg: 3, LSN: 70, Prev: 800}
	for mount := -300; mount <= 300; mount++ {
		p.Mount = mount
		fits(t, "a Mount", b, p, mount <= 5)
	}
	for _, mount := range []int{math.MinInt, -1 << 32, -1<<32 + 6, 1<<31 - 1, 1 << 31, 1 << 32, 1<<32 + 5, math.MaxInt} {
		p.Mount = mount
		fits(t, "a Mount far off", b, p, mount <= 5)
	}
}

func TestP8_2AnyOff(t *testing.T) {
	for _, h := range []api.Head{some(), low(), high(), of(3, 5, 70, 800)} {
		p := own(h)
		for _, off := range append(far, 0, 1, 17, 23, 24, 63, 64, 65, 1<<31) {
			p.Off = off
			fits(t, "any Off", encoded(t, h), p, true)
		}
	}
}

// Each of Seg, LSN and Prev alone is turned away from the head's, by little and by
// much, at a place of the head's own Mount and of one ahead of it.
func TestP8_2OtherPlaces(t *testing.T) {
	by := []int{1, -1, 2, -3, 255, 256, -256, 65536, 1 << 31, 1 << 32, -1 << 32, 1 << 62, math.MinInt}
	for _, h := range []api.Head{some(), low(), high(), of(3, 5, 70, 800)} {
		b := encoded(t, h)
		for _, n := range by {
			for ahead := range 2 {
				p := own(h)
				p.Mount -= ahead
				seg, lsn, prev := p, p, p
				seg.Seg += n
				lsn.LSN += n
				prev.Prev += n
				fits(t, "another Seg", b, seg, false)
				fits(t, "another LSN", b, lsn, false)
				fits(t, "another Prev", b, prev, false)
			}
		}
		p := own(h)
		p.Seg, p.LSN = p.LSN, p.Seg
		fits(t, "Seg and LSN turned round", b, p, false)
		p = own(h)
		p.LSN, p.Prev = p.Prev, p.LSN
		fits(t, "LSN and Prev turned round", b, p, false)
	}
	fits(t, "a place of zeros", encoded(t, low()), api.Pos{}, false)
}

// What is no head fits nowhere: neither at the place that its numbers tell, nor at
// a place of zeros, which are the numbers of none.
func TestP8_2NoHead(t *testing.T) {
	for what, b := range nones(t) {
		places := []api.Pos{{}, {Off: 1}, {Mount: -1}, own(some()), own(low()), own(high())}
		for _, p := range places {
			fits(t, what, b, p, false)
		}
	}
	for _, h := range []api.Head{
		{}, of(32, 2, 258, 3), of(31, 0, 258, 3), of(31, 2, 0, 3),
		of(31, 1<<31, 258, 3), of(31, 2, 1<<31, 3), of(31, 2, 1<<32-1, 3),
	} {
		fits(t, "numbers that may not be", laid(h), own(h), false)
	}
}

// nones are bytes that are no head; but for one thing some of them are.
func nones(t *testing.T) map[string][]byte {
	t.Helper()
	b := encoded(t, some())
	return map[string][]byte{
		"nothing":       nil,
		"zeros":         make([]byte, 64),
		"zeros, summed": withSum(make([]byte, 60)),
		"no numbers":    sector('K', 'H'),
		"63 bytes":      b[:63],
		"65 bytes":      append(bytes.Clone(b), 0),
		"many bytes":    append(bytes.Clone(b), make([]byte, 70000)...),
		"a turned zero": turned(b, 200, 1),
		"a turned Seg":  turned(b, 16, 1),
		"a turned sum":  turned(b, 511, 1),
		"another sign":  sector('K', 'R', 31, 2, 0, 0, 0, 2, 1, 0, 0, 255, 255, 255, 255),
		"no zeros":      sector('K', 'H', 31, 2, 0, 0, 0, 2, 1, 0, 0, 255, 255, 255, 255, 1),
		"Mount 0":       sector('K', 'H', 31, 0, 0, 0, 0, 2, 1, 0, 0, 255, 255, 255, 255),
	}
}

func TestP8_3OneBit(t *testing.T) {
	for _, h := range []api.Head{some(), low(), high()} {
		b := encoded(t, h)
		for at := range 480 {
			isNone(t, "one bit turned", turned(b, at, 1))
			fits(t, "one bit turned", turned(b, at, 1), own(h), false)
		}
	}
}

func TestP8_3BitsInARow(t *testing.T) {
	for _, h := range []api.Head{some(), low(), high()} {
		b := encoded(t, h)
		for n := 2; n <= 32; n++ {
			for at := 0; at+n <= 480; at++ {
				for _, p := range patterns(n) {
					isNone(t, "bits in a row turned", turned(b, at, p))
				}
			}
		}
	}
}

// A turned head whose sign and numbers are those of another one is none either, and
// fits at neither's place: only the sum tells.
func TestP8_3NumbersTurned(t *testing.T) {
	h := of(3, 5, 70, 800)
	b := encoded(t, h)
	for p := uint32(1); p < 1<<16; p++ {
		isNone(t, "a Mount turned", turned(b, 24, p))
		isNone(t, "an LSN turned", turned(b, 56, p))
		isNone(t, "a Prev turned", turned(b, 88, p))
		fits(t, "a Prev turned", turned(b, 88, p), own(of(3, 5, 70, 800^int(p))), false)
	}
	for p := uint32(1); p < 1<<8; p++ {
		isNone(t, "a Seg turned", turned(b, 16, p))
		fits(t, "a Seg turned", turned(b, 16, p), own(of(3^int(p), 5, 70, 800)), false)
	}
}
