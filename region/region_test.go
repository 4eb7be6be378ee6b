package region_test

import (
	"bytes"
	"hash/crc32"
	"math"
	"reflect"
	"slices"
	"testing"

	"keelson/api"
	"keelson/geom"
	"keelson/region"
)

// far is what no number of a region is; some of it is one again, if only its lowest
// one or four bytes are looked at.
var far = []int{
	-1, -2, -31, -128, -254, -255, -256, 1 << 32, 1<<32 + 1, 1<<32 + 2, 1<<33 - 1, 1<<40 + 2, 1<<63 - 1<<5,
	-1 << 31, -1 << 32, -1<<32 + 1, -1<<62 + 2, math.MaxInt, math.MaxInt - 1, math.MinInt, math.MinInt + 1, math.MinInt + 2,
}

// nums are numbers of four bytes from 1 to MaxNum, at both ends and between.
var nums = []int{1, 2, 255, 256, 65536, 1 << 24, 1<<31 - 2, 1<<31 - 1}

// shape is the numbers of a geometry, and the geometry.
type shape struct {
	api.Config
	g *geom.Geom
}

// of is the geometry of these numbers.
func of(blocks, segs, size int) shape {
	c := api.Config{Blocks: blocks, Segs: segs, Len: size}
	g, e := geom.New(c)
	if e != api.OK {
		panic("no geometry")
	}
	return shape{Config: c, g: g}
}

// plain is the geometry of the document's example.
func plain() shape { return of(20, 8, 24) }

// shapes are the least geometry, the greatest one, one whose regions have no room
// for zeros (17 segments), and some between, each number of pages among them.
func shapes() []shape {
	return []shape{plain(), of(1, 8, 24), of(64, 32, 64), of(15, 17, 30), of(16, 18, 63), of(31, 9, 25), of(60, 31, 24), of(1, 32, 64), of(64, 8, 24)}
}

// pages and size are how many pages the geometry has, and how many bytes its regions.
func (c shape) pages() int { return (c.Blocks + 14) / 15 }
func (c shape) size() int  { return (43 + 5*c.Segs + 63) / 64 * 64 }

// some is an ordinary region.
func (c shape) some() api.Region {
	r := api.Region{
		Gen: 3, View: 260, Mode: 2, Epoch: 5, Seq: 300, Done: 6,
		At:   api.Pos{Seg: 2, Off: 23, LSN: 8, Prev: 1<<32 - 1, Mount: 9},
		Base: make([]int, c.pages()), Over: make([]int, c.pages()), Segs: make([]api.Use, c.Segs),
	}
	for i := range r.Base {
		r.Base[i], r.Over[i] = (i+1)%2, i/2%2
	}
	r.Segs[2] = api.Use{State: 1, Stamp: 7}
	r.Segs[5] = api.Use{State: 2, Stamp: 258}
	r.Segs[c.Segs-1] = api.Use{State: 2, Stamp: 0x01020304}
	return r
}

// low and high are the regions whose numbers are all at the one, or the other, end
// of their bounds.
func (c shape) low() api.Region {
	r := api.Region{Gen: 1, View: 1, Mode: 1, At: api.Pos{LSN: 1, Mount: 1}}
	r.Base, r.Over, r.Segs = make([]int, c.pages()), make([]int, c.pages()), make([]api.Use, c.Segs)
	r.Segs[0].State = 1
	return r
}

func (c shape) high() api.Region {
	n := 1<<31 - 1
	return api.Region{
		Gen: n, View: n, Mode: 2, Epoch: n, Seq: n, Done: n,
		At:   api.Pos{Seg: c.Segs - 1, Off: c.Len - 1, LSN: n, Prev: 1<<32 - 1, Mount: n},
		Base: slices.Repeat([]int{1}, c.pages()),
		Over: slices.Repeat([]int{1}, c.pages()),
		Segs: append(slices.Repeat([]api.Use{{State: 2, Stamp: n}}, c.Segs-1), api.Use{State: 1, Stamp: n}),
	}
}

// each are the three of these.
func (c shape) each() []api.Region {
	return []api.Region{c.some(), c.low(), c.high()}
}

// with is a region of its own, like that one but for a change.
func with(r api.Region, change func(r *api.Region)) api.Region {
	r.Base, r.Over, r.Segs = slices.Clone(r.Base), slices.Clone(r.Over), slices.Clone(r.Segs)
	change(&r)
	return r
}

// goesOn is the region with another segment in which the log goes on.
func goesOn(r api.Region, seg int) api.Region {
	return with(r, func(r *api.Region) {
		r.Segs[r.At.Seg].State = 2
		r.Segs[seg].State = 1
		r.At.Seg = seg
	})
}

// field is a number of a region, and where it stands.
type field struct {
	at, width int
	number    *int
}

// fields are all numbers of a region but the sign, the slots and the sum.
func fields(r *api.Region) []field {
	l := []field{
		{2, 4, &r.Gen}, {6, 4, &r.View}, {10, 1, &r.Mode}, {11, 4, &r.Epoch}, {15, 4, &r.Seq}, {19, 4, &r.Done},
		{23, 1, &r.At.Seg}, {24, 1, &r.At.Off}, {25, 4, &r.At.LSN}, {29, 4, &r.At.Prev}, {33, 4, &r.At.Mount},
	}
	for s := range r.Segs {
		l = append(l, field{39 + 5*s, 1, &r.Segs[s].State}, field{40 + 5*s, 4, &r.Segs[s].Stamp})
	}
	return l
}

// body is a region's bytes by hand, also of one that may not be, up to the sum.
func (c shape) body(r api.Region) []byte {
	b := make([]byte, c.size()-4)
	copy(b, "KC")
	for _, f := range fields(&r) {
		for i := range f.width {
			b[f.at+i] = byte(*f.number >> (8 * i))
		}
	}
	for page := range r.Base {
		b[37] |= byte(r.Base[page] << page)
		b[38] |= byte(r.Over[page] << page)
	}
	return b
}

// withSum is the bytes with a sum behind them that holds.
func withSum(b []byte) []byte {
	sum := crc32.Checksum(b, crc32.MakeTable(crc32.Castagnoli))
	return append(bytes.Clone(b), byte(sum), byte(sum>>8), byte(sum>>16), byte(sum>>24))
}

// laid is a region's bytes by hand, also of one that may not be.
func (c shape) laid(r api.Region) []byte {
	return withSum(c.body(r))
}

// put is the bytes ahead of the sum with one of them turned into that one, and with
// a sum that holds.
func put(b []byte, at int, x byte) []byte {
	other := bytes.Clone(b[:len(b)-4])
	other[at] = x
	return withSum(other)
}

// same tells whether two regions are alike; nil and an empty list are.
func same(a, b api.Region) bool {
	if !slices.Equal(a.Base, b.Base) || !slices.Equal(a.Over, b.Over) || !slices.Equal(a.Segs, b.Segs) {
		return false
	}
	a.Base, a.Over, a.Segs = b.Base, b.Over, b.Segs
	return reflect.DeepEqual(a, b)
}

// encoded is the bytes of a region that may be.
func (c shape) encoded(t *testing.T, r api.Region) []byte {
	t.Helper()
	b, e := region.Encode(c.g, r)
	if len(b) != c.size() || e != api.OK {
		t.Fatalf("%v: Encode(%v): got %d bytes and error %d, want %d bytes", c.Config, r, len(b), e, c.size())
	}
	return b
}

// may fails unless a region may be, and has bytes.
func (c shape) may(t *testing.T, r api.Region) {
	t.Helper()
	if !region.May(c.g, r) {
		t.Errorf("%v: May(%v): got false", c.Config, r)
	}
	c.encoded(t, r)
}

// mayNot fails unless a region may not be, and has no bytes.
func (c shape) mayNot(t *testing.T, r api.Region) {
	t.Helper()
	may := region.May(c.g, r)
	b, e := region.Encode(c.g, r)
	if may || len(b) > 0 || e != api.ErrArg {
		t.Errorf("%v: %v: May %t, Encode %d bytes and error %d, want false, none and %d", c.Config, r, may, len(b), e, api.ErrArg)
	}
}

// isThat fails unless Decode answers that region.
func (c shape) isThat(t *testing.T, what string, b []byte, want api.Region) {
	t.Helper()
	r, e := region.Decode(c.g, b)
	if !same(r, want) || e != api.OK {
		t.Errorf("%v: Decode of %s (% x):\n got %v and error %d\nwant %v", c.Config, what, b, r, e, want)
	}
}

// isNone fails unless Decode refuses the bytes.
func (c shape) isNone(t *testing.T, what string, b []byte) {
	t.Helper()
	r, e := region.Decode(c.g, b)
	if !same(r, api.Region{}) || e != api.ErrBad {
		t.Errorf("%v: Decode of %s (%d bytes): got %v and error %d, want zeros and %d", c.Config, what, len(b), r, e, api.ErrBad)
	}
}

// chosen fails unless Choose answers that.
func (c shape) chosen(t *testing.T, what string, a, b []byte, want api.Region, place int) {
	t.Helper()
	r, p, e := region.Choose(c.g, a, b)
	if !same(r, want) || p != place || e != api.OK {
		t.Errorf("%v: Choose of %s:\n got %v, %d and error %d\nwant %v, %d", c.Config, what, r, p, e, want, place)
	}
}

// noneChosen fails unless Choose takes neither.
func (c shape) noneChosen(t *testing.T, what string, a, b []byte) {
	t.Helper()
	r, p, e := region.Choose(c.g, a, b)
	if !same(r, api.Region{}) || p != 0 || e != api.ErrBad {
		t.Errorf("%v: Choose of %s: got %v, %d and error %d, want zeros and %d", c.Config, what, r, p, e, api.ErrBad)
	}
}

// turned is the bytes with some bits turned: the lowest bit of the pattern stands
// for bit at, in a row of bits that has the lowest one of each byte first.
func turned(b []byte, at int, pattern uint32) []byte {
	x := bytes.Clone(b)
	for ; pattern > 0; pattern >>= 1 {
		x[at/8] ^= byte(pattern&1) << (at % 8)
		at++
	}
	return x
}

// patterns are bits in a row, that many of them, the first and the last one turned:
// all of them, these two alone, and some between.
func patterns(n int) []uint32 {
	all := uint32(1<<n - 1)
	ends := uint32(1 | 1<<(n-1))
	return []uint32{all, ends, ends | 0x55555555&all, ends | 0x0F0F0F0F&all, ends | 0x9E3779B9&all, ends | 0x82F63B78&all}
}

func TestP9_1Example(t *testing.T) {
	for _, c := range shapes() {
		for _, r := range c.each() {
			for _, state := range []int{0, 2} {
				c.mayNot(t, with(r, func(r *api.Region) { r.Segs[r.At.Seg].State = state }))
			}
		}
	}
}

func TestP9_1Numbers(t *testing.T) {
	for _, c := range shapes() {
		for _, r := range c.each() {
			c.may(t, r)
			for _, n := range nums {
				c.may(t, with(r, func(r *api.Region) { r.Gen = n }))
				c.may(t, with(r, func(r *api.Region) { r.View = n }))
				c.may(t, with(r, func(r *api.Region) { r.At.LSN = n }))
				c.may(t, with(r, func(r *api.Region) { r.At.Mount = n }))
			}
			for _, n := range append(far, 0, 1<<31, 1<<31+1, 1<<32-1) {
				c.mayNot(t, with(r, func(r *api.Region) { r.Gen = n }))
				c.mayNot(t, with(r, func(r *api.Region) { r.View = n }))
				c.mayNot(t, with(r, func(r *api.Region) { r.At.LSN = n }))
				c.mayNot(t, with(r, func(r *api.Region) { r.At.Mount = n }))
			}
			for _, n := range append(nums, 0, 1<<31, 1<<31+1, 1<<32-2, 1<<32-1) {
				c.may(t, with(r, func(r *api.Region) { r.At.Prev = n }))
			}
			for _, n := range far {
				c.mayNot(t, with(r, func(r *api.Region) { r.At.Prev = n }))
			}
		}
		c.mayNot(t, api.Region{})
	}
}

func TestP9_1Mode(t *testing.T) {
	for _, c := range shapes() {
		for _, r := range c.each() {
			for mode := -1000; mode <= 1000; mode++ {
				other := with(r, func(r *api.Region) { r.Mode = mode })
				if mode == 1 || mode == 2 {
					c.may(t, other)
				} else {
					c.mayNot(t, other)
				}
			}
			for _, mode := range far {
				c.mayNot(t, with(r, func(r *api.Region) { r.Mode = mode }))
			}
		}
	}
}

func TestP9_1EpochSeqDone(t *testing.T) {
	for _, c := range shapes() {
		for _, r := range c.each() {
			for _, n := range append(nums, 0) {
				c.may(t, with(r, func(r *api.Region) { r.Epoch = n }))
				c.may(t, with(r, func(r *api.Region) { r.Seq, r.Done = n, 0 }))
				c.may(t, with(r, func(r *api.Region) { r.Seq, r.Done = n, n }))
				c.may(t, with(r, func(r *api.Region) { r.Seq, r.Done = 1<<31-1, n }))
				c.mayNot(t, with(r, func(r *api.Region) { r.Seq, r.Done = n, n+1 }))
				c.mayNot(t, with(r, func(r *api.Region) { r.Seq, r.Done = n, -1 }))
				c.mayNot(t, with(r, func(r *api.Region) { r.Seq, r.Done = n, 1<<31 }))
			}
			for _, n := range append(far, 1<<31, 1<<31+1, 1<<32-1) {
				c.mayNot(t, with(r, func(r *api.Region) { r.Epoch = n }))
				c.mayNot(t, with(r, func(r *api.Region) { r.Seq = n }))
				c.mayNot(t, with(r, func(r *api.Region) { r.Seq, r.Done = n, 0 }))
				c.mayNot(t, with(r, func(r *api.Region) { r.Seq, r.Done = n, n }))
				c.mayNot(t, with(r, func(r *api.Region) { r.Seq, r.Done = 1<<31-1, n }))
			}
			c.may(t, with(r, func(r *api.Region) { r.Seq, r.Done = 300, 299 }))
			c.mayNot(t, with(r, func(r *api.Region) { r.Seq, r.Done = 0, 1 }))
			c.mayNot(t, with(r, func(r *api.Region) { r.Seq, r.Done = 3, 1<<31-1 }))
		}
	}
}

func TestP9_1At(t *testing.T) {
	for _, c := range shapes() {
		for _, r := range c.each() {
			for seg := range c.Segs {
				c.may(t, goesOn(r, seg))
			}
			for _, n := range append(far, c.Segs, c.Segs+1, 64, 255, 256, 256+r.At.Seg) {
				// The one that is Open stays, or there is none.
				c.mayNot(t, with(r, func(r *api.Region) { r.At.Seg = n }))
				c.mayNot(t, with(r, func(r *api.Region) { r.Segs[r.At.Seg].State, r.At.Seg = 2, n }))
			}
			for off := range c.Len {
				c.may(t, with(r, func(r *api.Region) { r.At.Off = off }))
			}
			for _, n := range append(far, c.Len, c.Len+1, 64, 65, 255, 256, 1<<31) {
				c.mayNot(t, with(r, func(r *api.Region) { r.At.Off = n }))
			}
		}
	}
}

func TestP9_1Slots(t *testing.T) {
	for _, c := range shapes() {
		for _, r := range c.each() {
			for page := range c.pages() {
				for _, n := range []int{0, 1} {
					c.may(t, with(r, func(r *api.Region) { r.Base[page] = n }))
					c.may(t, with(r, func(r *api.Region) { r.Over[page] = n }))
				}
				for _, n := range append(far, 2, 3, 4, 16, 127, 128, 255, 256, 257, 1<<31) {
					c.mayNot(t, with(r, func(r *api.Region) { r.Base[page] = n }))
					c.mayNot(t, with(r, func(r *api.Region) { r.Over[page] = n }))
				}
			}
		}
	}
}

func TestP9_1HowManySlots(t *testing.T) {
	for _, c := range shapes() {
		for _, r := range c.each() {
			for n := range 100 {
				for slot := range 2 {
					l := slices.Repeat([]int{slot}, n)
					base := with(r, func(r *api.Region) { r.Base = l })
					over := with(r, func(r *api.Region) { r.Over = l })
					if n == c.pages() {
						c.may(t, base)
						c.may(t, over)
					} else {
						c.mayNot(t, base)
						c.mayNot(t, over)
						c.mayNot(t, with(base, func(r *api.Region) { r.Over = l }))
					}
				}
			}
			c.mayNot(t, with(r, func(r *api.Region) { r.Base = nil }))
			c.mayNot(t, with(r, func(r *api.Region) { r.Over = nil }))
			// As many in all, but one of them in the wrong list.
			c.mayNot(t, with(r, func(r *api.Region) { r.Base, r.Over = r.Base[1:], append(r.Over, 0) }))
			c.mayNot(t, with(r, func(r *api.Region) { r.Base, r.Over = append(r.Base, 0), r.Over[1:] }))
		}
	}
}

func TestP9_1HowManySegs(t *testing.T) {
	for _, c := range shapes() {
		for _, r := range c.each() {
			r = goesOn(r, 0)
			for n := range 100 {
				other := with(r, func(r *api.Region) { r.Segs = append(r.Segs, make([]api.Use, 100)...)[:n] })
				if n == c.Segs {
					c.may(t, other)
				} else {
					c.mayNot(t, other)
				}
			}
			c.mayNot(t, with(r, func(r *api.Region) { r.Segs = nil }))
			c.mayNot(t, with(r, func(r *api.Region) { r.Segs = append(r.Segs, api.Use{State: 2, Stamp: 3}) }))
			// The one that is Open is there, but by a number that is no segment's.
			c.mayNot(t, with(r, func(r *api.Region) {
				r.Segs[0].State = 2
				r.Segs = append(r.Segs, api.Use{State: 1})
				r.At.Seg = c.Segs
			}))
		}
	}
}

func TestP9_1Uses(t *testing.T) {
	for _, c := range shapes() {
		for _, r := range c.each() {
			for s := range c.Segs {
				for _, n := range append(nums, 0) {
					c.may(t, with(r, func(r *api.Region) { r.Segs[s].Stamp = n }))
				}
				for _, n := range append(far, 1<<31, 1<<31+1, 1<<32-1) {
					c.mayNot(t, with(r, func(r *api.Region) { r.Segs[s].Stamp = n }))
				}
				for _, n := range append(far, 3, 4, 127, 128, 255, 256, 257, 258, 1<<31) {
					c.mayNot(t, with(r, func(r *api.Region) { r.Segs[s].State = n }))
				}
			}
		}
	}
}

func TestP9_1Open(t *testing.T) {
	for _, c := range shapes() {
		for _, r := range c.each() {
			for at := range c.Segs {
				r := goesOn(r, at)
				for s := range c.Segs {
					for state := range 3 {
						// s has another State, and At's Seg stays: it is the only Open one,
						// or is not Open any more, or two are.
						other := with(r, func(r *api.Region) { r.Segs[s].State = state })
						if (s == at) == (state == 1) {
							c.may(t, other)
						} else {
							c.mayNot(t, other)
						}
					}
					if s != at {
						c.mayNot(t, with(r, func(r *api.Region) { r.At.Seg = s }))
						c.mayNot(t, with(r, func(r *api.Region) { r.Segs[at].State, r.Segs[s].State = 0, 1 }))
					}
				}
			}
			c.mayNot(t, with(r, func(r *api.Region) {
				for s := range r.Segs {
					r.Segs[s].State = 1
				}
			}))
		}
	}
}

func TestP9_1NilGeom(t *testing.T) {
	for _, c := range shapes() {
		for _, r := range append(c.each(), api.Region{}) {
			if region.May(nil, r) {
				t.Errorf("May(nil, %v): got true", r)
			}
		}
	}
}

// A Geom that is not nil, and that New did not make, has no segment: there is none
// in which the log could go on.
func TestP9_1NoGeom(t *testing.T) {
	c := shape{g: new(geom.Geom)}
	for _, r := range append(plain().each(), api.Region{}) {
		c.mayNot(t, r)
		c.isNone(t, "a region", plain().laid(with(r, func(r *api.Region) { r.Segs = nil })))
	}
	c.isNone(t, "nothing", nil)
	c.noneChosen(t, "nothing", nil, nil)
}

func TestP9_2Bytes(t *testing.T) {
	c := plain()
	want := []byte{
		'K', 'C', 3, 0, 0, 0, 4, 1, 0, 0, 2, 5, 0, 0, 0, 44,
		1, 0, 0, 6, 0, 0, 0, 2, 23, 8, 0, 0, 0, 255, 255, 255,
		255, 9, 0, 0, 0, 1, 0, 0, 0, 0, 0, 0, 0, 0, 0, 0,
		0, 1, 7, 0, 0, 0, 0, 0, 0, 0, 0, 0, 0, 0, 0, 0,
		2, 2, 1, 0, 0, 0, 0, 0, 0, 0, 2, 4, 3, 2, 1, 0,
		0, 0, 0, 0, 0, 0, 0, 0, 0, 0, 0, 0, 0, 0, 0, 0,
		0, 0, 0, 0, 0, 0, 0, 0, 0, 0, 0, 0, 0, 0, 0, 0,
		0, 0, 0, 0, 0, 0, 0, 0, 0, 0, 0, 0, 0x11, 0x01, 0xaf, 0x0d,
	}
	if b := c.encoded(t, c.some()); !bytes.Equal(b, want) {
		t.Errorf("got  % x\nwant % x", b, want)
	}
}

// Where 17 segments are, the sum stands at once behind the last one's Stamp.
func TestP9_2NoZeros(t *testing.T) {
	c := of(64, 17, 64)
	r := c.high()
	b := c.encoded(t, r)
	if !bytes.Equal(b[118:124], []byte{127, 1, 255, 255, 255, 127}) || len(b) != 128 || !bytes.Equal(b, c.laid(r)) {
		t.Errorf("got % x", b)
	}
	if b[37] != 31 || b[38] != 31 {
		t.Errorf("got slots %d and %d, want five bits each", b[37], b[38])
	}
}

func TestP9_2BytesAtEdges(t *testing.T) {
	for _, c := range shapes() {
		for _, r := range c.each() {
			for _, f := range fields(&r) {
				before := *f.number
				for _, n := range append(nums, before, 0, 3, 24, 1<<31, 1<<32-1) {
					*f.number = n
					if !region.May(c.g, r) {
						continue
					}
					if b, want := c.encoded(t, r), c.laid(r); !bytes.Equal(b, want) {
						t.Fatalf("%v: %v:\n got % x\nwant % x", c.Config, r, b, want)
					}
					c.isThat(t, "bytes laid by hand", c.laid(r), r)
				}
				*f.number = before
			}
			for seg := range c.Segs {
				r := goesOn(r, seg)
				if b, want := c.encoded(t, r), c.laid(r); !bytes.Equal(b, want) {
					t.Fatalf("%v: %v:\n got % x\nwant % x", c.Config, r, b, want)
				}
				c.isThat(t, "bytes laid by hand", c.laid(r), r)
			}
		}
	}
}

func TestP9_2AllGeometries(t *testing.T) {
	for blocks := 1; blocks <= 64; blocks++ {
		for segs := 8; segs <= 32; segs++ {
			for _, size := range []int{24, 25, 63, 64} {
				c := of(blocks, segs, size)
				for _, r := range c.each() {
					b := c.encoded(t, r)
					if !bytes.Equal(b, c.laid(r)) {
						t.Fatalf("%v: %v:\n got % x", c.Config, r, b)
					}
					c.isThat(t, "what was encoded", b, r)
				}
			}
		}
	}
}

func TestP9_2AllSlots(t *testing.T) {
	for _, c := range shapes() {
		for base := range 1 << c.pages() {
			for over := range 1 << c.pages() {
				r := with(c.some(), func(r *api.Region) {
					for page := range c.pages() {
						r.Base[page], r.Over[page] = base>>page&1, over>>page&1
					}
				})
				b := c.encoded(t, r)
				if int(b[37]) != base || int(b[38]) != over {
					t.Errorf("%v: slots %v and %v: got bytes %d and %d", c.Config, r.Base, r.Over, b[37], b[38])
				}
				c.isThat(t, "any slots", b, r)
			}
		}
	}
}

func TestP9_2OtherLengths(t *testing.T) {
	for _, c := range shapes() {
		for _, r := range c.each() {
			b := c.encoded(t, r)
			for n := range 400 {
				long := append(bytes.Clone(b), make([]byte, 400)...)[:n]
				if n == c.size() {
					c.isThat(t, "all bytes", long, r)
				} else {
					c.isNone(t, "a region cut, or zeros behind it", long)
				}
			}
			c.isNone(t, "one without its first byte", b[1:])
			c.isNone(t, "one behind a byte", append([]byte{0}, b...))
			c.isNone(t, "one without its first sector", b[64:])
			c.isNone(t, "one behind a sector", append(make([]byte, 64), b...))
			c.isNone(t, "two of them", append(bytes.Clone(b), b...))
			c.isNone(t, "as many as a row has", append(bytes.Clone(b), make([]byte, 65536-len(b))...))
			c.isNone(t, "more than a row has", append(bytes.Clone(b), make([]byte, 65537-len(b))...))
		}
		c.isNone(t, "nothing", nil)
		c.isNone(t, "no bytes", []byte{})
		c.isNone(t, "zeros", make([]byte, c.size()))
	}
}

func TestP9_2OtherLengthsWithSum(t *testing.T) {
	for _, c := range shapes() {
		for _, r := range c.each() {
			body := append(c.body(r), make([]byte, 400)...)
			for n := range 400 {
				if n == c.size()-4 {
					c.isThat(t, "all bytes with a sum", withSum(body[:n]), r)
				} else {
					c.isNone(t, "other bytes with a sum", withSum(body[:n]))
				}
			}
		}
	}
}

func TestP9_2OtherSum(t *testing.T) {
	for _, c := range shapes() {
		b := c.encoded(t, c.some())
		n := len(b) - 4
		for i := n; i < len(b); i++ {
			for x := 1; x < 256; x++ {
				other := bytes.Clone(b)
				other[i] ^= byte(x)
				c.isNone(t, "another sum", other)
			}
		}
		zeros := withSum(make([]byte, n))
		first := withSum(b[:60])
		c.isNone(t, "zeros with their sum", zeros)
		c.isNone(t, "bytes with the sum of zeros", append(bytes.Clone(b[:n]), zeros[n:]...))
		c.isNone(t, "the sum of 60 bytes", append(bytes.Clone(b[:n]), first[60:]...))
		c.isNone(t, "a sum with the greatest byte first", append(bytes.Clone(b[:n]), b[n+3], b[n+2], b[n+1], b[n]))
	}
}

// allowed tells by hand whether a region may be, all of whose numbers are as their
// bytes are, and which has as many slots and segments as there should be.
func (c shape) allowed(r api.Region) bool {
	for _, n := range []int{r.Gen, r.View, r.At.LSN, r.At.Mount} {
		if n == 0 || n > 1<<31-1 {
			return false
		}
	}
	for s, u := range r.Segs {
		if u.State > 2 || u.Stamp > 1<<31-1 || (u.State == 1) != (s == r.At.Seg) {
			return false
		}
	}
	return (r.Mode == 1 || r.Mode == 2) && r.Epoch <= 1<<31-1 && r.Seq <= 1<<31-1 && r.Done <= r.Seq &&
		r.At.Seg < c.Segs && r.At.Off < c.Len
}

// changed is the region when the byte there is another one, and whether there is
// one with such bytes.
func (c shape) changed(r api.Region, at int, from, to byte) (api.Region, bool) {
	good := from == to
	r = with(r, func(r *api.Region) {
		for _, f := range fields(r) {
			if at >= f.at && at < f.at+f.width {
				*f.number += (int(to) - int(from)) << (8 * (at - f.at))
				good = c.allowed(*r)
			}
		}
		slots := map[int][]int{37: r.Base, 38: r.Over}[at]
		for page := range slots {
			slots[page] = int(to) >> page & 1
			good = int(to) < 1<<len(slots)
		}
	})
	return r, good
}

// Each byte ahead of the sum in turn is each value, and the sum holds: that is a
// region only if it is one of the numbers, and the region may have that number.
func TestP9_2EachByteWithSum(t *testing.T) {
	for _, c := range []shape{plain(), of(64, 32, 64), of(15, 17, 30)} {
		for _, r := range c.each() {
			b := c.encoded(t, r)
			for i := range len(b) - 4 {
				for x := range 256 {
					other, good := c.changed(r, i, b[i], byte(x))
					if good {
						c.isThat(t, "another number with its sum", put(b, i, byte(x)), other)
					} else {
						c.isNone(t, "what no region has, with its sum", put(b, i, byte(x)))
					}
				}
			}
		}
	}
}

func TestP9_2WrongWithSum(t *testing.T) {
	for _, c := range shapes() {
		r := c.some()
		b := c.laid(r)
		c.isThat(t, "a region", b, r)
		c.isNone(t, "no sign", put(put(b, 0, 0), 1, 0))
		c.isNone(t, "a superblock's sign", put(b, 1, 'S'))
		c.isNone(t, "a record's sign", put(b, 1, 'R'))
		c.isNone(t, "a head's sign", put(b, 1, 'H'))
		c.isNone(t, "a sign turned round", put(put(b, 0, 'C'), 1, 'K'))
		c.isNone(t, "small letters", put(put(b, 0, 'k'), 1, 'c'))
		c.isNone(t, "no numbers", withSum(append([]byte("KC"), make([]byte, c.size()-6)...)))
		if end := 39 + 5*c.Segs; end < c.size()-4 {
			c.isNone(t, "something at once behind the segments", put(b, end, 1))
			c.isNone(t, "something at the end of the zeros", put(b, c.size()-5, 128))
		}
		for page := c.pages(); page < 8; page++ {
			c.isNone(t, "a bit of Base behind the last page", put(b, 37, b[37]|1<<page))
			c.isNone(t, "a bit of Over behind the last page", put(b, 38, b[38]|1<<page))
		}
		for _, other := range []api.Region{
			with(r, func(r *api.Region) { r.Gen = 0 }),
			with(r, func(r *api.Region) { r.Gen = 1 << 31 }),
			with(r, func(r *api.Region) { r.View = 1<<32 - 1 }),
			with(r, func(r *api.Region) { r.Mode = 3 }),
			with(r, func(r *api.Region) { r.Seq, r.Done = 1<<31, 0 }),
			with(r, func(r *api.Region) { r.Done = r.Seq + 1 }),
			with(r, func(r *api.Region) { r.At.Seg = 3 }),
			with(r, func(r *api.Region) { r.Segs[2].State, r.At.Seg = 0, c.Segs }),
			with(r, func(r *api.Region) { r.At.Off = c.Len }),
			with(r, func(r *api.Region) { r.At.Mount = 0 }),
			with(r, func(r *api.Region) { r.Segs[2].State = 2 }),
			with(r, func(r *api.Region) { r.Segs[0].State = 1 }),
			with(r, func(r *api.Region) { r.Segs[1].State = 3 }),
			with(r, func(r *api.Region) { r.Segs[1].Stamp = 1 << 31 }),
		} {
			c.isNone(t, "numbers that may not be", c.laid(other))
		}
	}
}

// Bytes of another geometry are a region only if they are those of one here.
func TestP9_2OtherGeometry(t *testing.T) {
	for _, c := range shapes() {
		for _, other := range shapes() {
			for _, r := range other.each() {
				b := other.encoded(t, r)
				if c.size() != other.size() {
					c.isNone(t, "bytes of another length", b)
				} else if c.Config != other.Config && same(r, other.high()) && (c.Segs < other.Segs || c.Len < other.Len || c.pages() < other.pages()) {
					c.isNone(t, "bytes of a greater geometry", b)
				}
			}
		}
	}
	few, more := of(20, 8, 24), of(20, 9, 24)
	r := few.some()
	longer := with(r, func(r *api.Region) { r.Segs = append(r.Segs, api.Use{}) })
	more.isThat(t, "bytes of one segment fewer", few.encoded(t, r), longer)
	few.isThat(t, "bytes of one segment more, which tells nothing", more.encoded(t, longer), r)
	used := with(longer, func(r *api.Region) { r.Segs[8].Stamp = 1 })
	few.isNone(t, "bytes of one segment more", more.encoded(t, used))
	few.isNone(t, "bytes that go on in one segment more", more.encoded(t, goesOn(longer, 8)))

	long := of(20, 8, 25)
	few.isThat(t, "a place in a longer segment", long.encoded(t, r), r)
	few.isNone(t, "a place at a longer segment's end", long.encoded(t, with(r, func(r *api.Region) { r.At.Off = 24 })))

	wide := of(64, 8, 24)
	paged := with(r, func(r *api.Region) { r.Base, r.Over = append(r.Base, 0, 0, 0), append(r.Over, 0, 0, 0) })
	few.isThat(t, "bytes of more pages, in slot 0", wide.encoded(t, paged), r)
	few.isNone(t, "bytes of more pages", wide.encoded(t, with(paged, func(r *api.Region) { r.Base[4] = 1 })))
	few.isNone(t, "bytes of more pages", wide.encoded(t, with(paged, func(r *api.Region) { r.Over[2] = 1 })))
}

func TestP9_2NilGeom(t *testing.T) {
	for _, c := range shapes() {
		for _, r := range append(c.each(), api.Region{}) {
			if b, e := region.Encode(nil, r); len(b) > 0 || e != api.ErrArg {
				t.Errorf("Encode(nil, %v): got %d bytes and error %d, want none and %d", r, len(b), e, api.ErrArg)
			}
			for _, b := range [][]byte{nil, c.laid(r), make([]byte, c.size())} {
				if r, e := region.Decode(nil, b); !same(r, api.Region{}) || e != api.ErrArg {
					t.Errorf("Decode(nil, %d bytes): got %v and error %d, want zeros and %d", len(b), r, e, api.ErrArg)
				}
			}
		}
	}
}

func TestP9_2HandedIn(t *testing.T) {
	for _, c := range shapes() {
		r := with(c.some(), func(r *api.Region) {
			r.Base, r.Over, r.Segs = append(r.Base, 9, 9), append(r.Over, 9, 9), append(r.Segs, api.Use{State: 9})
		})
		before := with(r, func(*api.Region) {})
		cut := r
		cut.Base, cut.Over, cut.Segs = r.Base[:c.pages()], r.Over[:c.pages()], r.Segs[:c.Segs]
		all := append(c.encoded(t, cut), 9, 9, 9, 9)
		copied := bytes.Clone(all)
		c.may(t, cut)
		c.isThat(t, "bytes with spare room", all[:c.size()], cut)
		c.isNone(t, "bytes cut", all[:c.size()-1])
		c.chosen(t, "bytes with spare room", all[:c.size()], all[:c.size()-1], cut, 0)
		if !same(r, before) || !bytes.Equal(all, copied) {
			t.Errorf("what was handed in was changed: %v, % x", r, all)
		}
		one, other := c.encoded(t, cut), c.encoded(t, cut)
		clear(one[:cap(one)])
		if !bytes.Equal(other, copied[:c.size()]) || !bytes.Equal(c.encoded(t, cut), copied[:c.size()]) || !same(r, before) {
			t.Error("an answer of Encode shares its bytes")
		}
	}
}

// spoil turns all that the lists of a region have, and their spare room.
func spoil(r api.Region, base, over, segs bool) {
	if base {
		clear(r.Base[:cap(r.Base)])
	}
	if over {
		clear(r.Over[:cap(r.Over)])
	}
	if segs {
		clear(r.Segs[:cap(r.Segs)])
	}
}

func TestP9_2AnswersShareNothing(t *testing.T) {
	for _, c := range shapes() {
		want := c.high()
		b := c.encoded(t, want)
		for i := range 3 {
			one, _ := region.Decode(c.g, b)
			other, _, _ := region.Choose(c.g, b, b)
			spoil(one, i == 0, i == 1, i == 2)
			kept := with(want, func(r *api.Region) { spoil(*r, i == 0, i == 1, i == 2) })
			if !same(one, kept) || !same(other, want) {
				t.Errorf("%v: lists of answers share what they have:\n got %v and %v\nwant %v and %v", c.Config, one, other, kept, want)
			}
			spoil(other, true, true, true)
			c.isThat(t, "bytes whose region was changed", b, want)
		}
	}
}

// gen is the region with that Gen.
func gen(r api.Region, n int) api.Region {
	return with(r, func(r *api.Region) { r.Gen = n })
}

func TestP9_3Gens(t *testing.T) {
	gens := []int{1, 2, 3, 127, 128, 255, 256, 257, 65535, 65536, 1 << 24, 1<<31 - 2, 1<<31 - 1}
	for _, c := range shapes() {
		for _, left := range gens {
			for _, right := range gens {
				// What else they tell is lesser now in the chosen one, now in the other.
				a, b := gen(c.low(), left), gen(c.high(), right)
				if left >= right {
					c.chosen(t, "two", c.encoded(t, a), c.encoded(t, b), a, 0)
				} else {
					c.chosen(t, "two", c.encoded(t, a), c.encoded(t, b), b, 1)
				}
			}
		}
	}
}

func TestP9_3LikeGens(t *testing.T) {
	for _, c := range shapes() {
		for _, n := range []int{1, 3, 1<<31 - 1} {
			small, great := gen(c.low(), n), gen(c.high(), n)
			c.chosen(t, "like Gens", c.encoded(t, small), c.encoded(t, great), small, 0)
			c.chosen(t, "like Gens", c.encoded(t, great), c.encoded(t, small), great, 0)
			c.chosen(t, "twice the same", c.encoded(t, great), c.encoded(t, great), great, 0)
		}
	}
}

// nones are bytes that are no region; some have a great Gen.
func (c shape) nones(t *testing.T) map[string][]byte {
	t.Helper()
	r := gen(c.some(), 1<<31-1)
	b := c.encoded(t, r)
	more := of(c.Blocks, 40-c.Segs, c.Len)
	return map[string][]byte{
		"nothing":             nil,
		"zeros":               make([]byte, c.size()),
		"zeros, summed":       withSum(make([]byte, c.size()-4)),
		"a byte fewer":        b[:c.size()-1],
		"a byte more":         append(bytes.Clone(b), 0),
		"a sector fewer":      b[:c.size()-64],
		"a sector more":       append(bytes.Clone(b), make([]byte, 64)...),
		"many bytes":          append(bytes.Clone(b), make([]byte, 70000)...),
		"a turned bit":        turned(b, 77, 1),
		"a turned sum":        turned(b, 8*c.size()-1, 1),
		"another sign":        put(b, 1, 'S'),
		"a Gen too great":     c.laid(gen(r, 1<<31)),
		"Gen 0":               c.laid(gen(r, 0)),
		"Mode 0":              c.laid(with(r, func(r *api.Region) { r.Mode = 0 })),
		"none that is Open":   c.laid(with(r, func(r *api.Region) { r.Segs[2].State = 2 })),
		"that of another one": more.encoded(t, gen(goesOn(more.high(), 7), 1<<31-1)),
	}
}

func TestP9_3OneAlone(t *testing.T) {
	for _, c := range shapes() {
		for _, r := range c.each() {
			b := c.encoded(t, r)
			for what, none := range c.nones(t) {
				c.chosen(t, "one ahead of "+what, b, none, r, 0)
				c.chosen(t, "one behind "+what, none, b, r, 1)
			}
		}
	}
}

func TestP9_3Neither(t *testing.T) {
	for _, c := range shapes() {
		for what, a := range c.nones(t) {
			for beside, b := range c.nones(t) {
				c.noneChosen(t, what+" and "+beside, a, b)
			}
		}
	}
}

func TestP9_3NilGeom(t *testing.T) {
	c := plain()
	one, other := c.encoded(t, c.some()), c.encoded(t, c.high())
	for _, l := range [][2][]byte{{one, other}, {other, one}, {one, nil}, {nil, one}, {nil, nil}, {one, one}} {
		r, p, e := region.Choose(nil, l[0], l[1])
		if !same(r, api.Region{}) || p != 0 || e != api.ErrArg {
			t.Errorf("Choose of a nil Geom: got %v, %d and error %d, want zeros and %d", r, p, e, api.ErrArg)
		}
	}
}

func TestP9_4OneBit(t *testing.T) {
	for _, c := range shapes() {
		for _, r := range c.each() {
			b := c.encoded(t, r)
			for at := range 8 * (len(b) - 4) {
				c.isNone(t, "one bit turned", turned(b, at, 1))
			}
		}
	}
}

func TestP9_4BitsInARow(t *testing.T) {
	least, greatest, full := of(1, 8, 24), of(64, 32, 64), of(15, 17, 30)
	for _, one := range []struct {
		shape
		r api.Region
	}{{plain(), plain().some()}, {least, least.low()}, {greatest, greatest.high()}, {full, full.some()}} {
		b := one.encoded(t, one.r)
		for n := 2; n <= 32; n++ {
			for at := 0; at+n <= 8*(len(b)-4); at++ {
				for _, p := range patterns(n) {
					one.isNone(t, "bits in a row turned", turned(b, at, p))
				}
			}
		}
	}
}

// A turned region whose numbers are those of another one is none either, and is not
// chosen: only the sum tells.
func TestP9_4NumbersTurned(t *testing.T) {
	c := plain()
	b := c.encoded(t, c.some())
	other := c.some()
	for p := uint32(1); p < 1<<16; p++ {
		c.isNone(t, "a Gen turned", turned(b, 16, p))
		c.isNone(t, "an Epoch turned", turned(b, 88, p))
		c.isNone(t, "a Prev turned", turned(b, 232, p))
		c.isNone(t, "a Stamp turned", turned(b, 320, p))
	}
	for p := uint32(1); p < 1<<8; p++ {
		c.chosen(t, "one with a Gen turned, and its elder", turned(b, 24, p), b, other, 1)
	}
	c.isNone(t, "a Mode turned", turned(b, 80, 3))
	c.isNone(t, "a slot of Base turned", turned(b, 296, 1))
	c.isNone(t, "a slot of Over turned", turned(b, 304, 2))
	c.isNone(t, "a State turned", turned(b, 312, 2))
}
