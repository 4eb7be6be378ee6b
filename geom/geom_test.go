package geom_test

import (
	"iter"
	"math"
	"testing"

	"keelson/api"
	"keelson/geom"
)

// far is what is too far below, or above, to be the number of anything; some of
// it is a number again, if it is doubled and wraps round.
var far = []int{
	-2, 4096, -4096, 1 << 31, -1 << 31, 1 << 32, 1 << 61, 1 << 62, 1<<62 + 1, 1<<63 - 1<<5, -1 << 62,
	math.MaxInt, math.MaxInt - 1, math.MinInt, math.MinInt + 1,
}

// of is the Geom of these numbers.
func of(t *testing.T, blocks, segs, size int) *geom.Geom {
	t.Helper()
	g, e := geom.New(api.Config{Blocks: blocks, Segs: segs, Len: size})
	if g == nil || e != api.OK {
		t.Fatalf("New(%d, %d, %d): got %v and error %d", blocks, segs, size, g, e)
	}
	return g
}

// is fails unless a call answered that.
func is[T comparable](t *testing.T, what string, got, want T) {
	t.Helper()
	if got != want {
		t.Errorf("%s: got %v, want %v", what, got, want)
	}
}

// lies fails unless a thing begins at that sector.
func lies(t *testing.T, g *geom.Geom, what string, got, want int) {
	t.Helper()
	if got != want {
		t.Fatalf("%v: %s: got sector %d, want %d", g.Config(), what, got, want)
	}
}

// where fails unless a sector lies there in a segment.
func where(t *testing.T, g *geom.Geom, at, s, off int) {
	t.Helper()
	gs, goff, ok := g.Where(at)
	if gs != s || goff != off || !ok {
		t.Fatalf("%v: Where(%d): got %d, %d, %t, want %d, %d, true", g.Config(), at, gs, goff, ok, s, off)
	}
}

// nowhere fails unless a sector lies in no segment.
func nowhere(t *testing.T, g *geom.Geom, at int) {
	t.Helper()
	s, off, ok := g.Where(at)
	if s != 0 || off != 0 || ok {
		t.Fatalf("%v: Where(%d): got %d, %d, %t, want 0, 0, false", g.Config(), at, s, off, ok)
	}
}

// configs are all that may be.
func configs() iter.Seq[api.Config] {
	return func(yield func(api.Config) bool) {
		for blocks := 1; blocks <= 64; blocks++ {
			for segs := 8; segs <= 32; segs++ {
				for size := 24; size <= 64; size++ {
					if !yield(api.Config{Blocks: blocks, Segs: segs, Len: size}) {
						return
					}
				}
			}
		}
	}
}

// edges are those with each number at one end of its bounds or beside it, and with
// Blocks on both sides of each number of pages.
func edges(t *testing.T) iter.Seq[*geom.Geom] {
	return func(yield func(*geom.Geom) bool) {
		for _, blocks := range []int{1, 2, 15, 16, 30, 31, 45, 46, 60, 61, 63, 64} {
			for _, segs := range []int{8, 9, 17, 18, 29, 30, 31, 32} {
				for _, size := range []int{24, 25, 63, 64} {
					if !yield(of(t, blocks, segs, size)) {
						return
					}
				}
			}
		}
	}
}

// packed is how many boxes are filled, one after the other, by that many things.
func packed(things, box int) int {
	boxes, room := 0, 0
	for range things {
		if room == 0 {
			boxes, room = boxes+1, box
		}
		room--
	}
	return boxes
}

func TestP4_1Example(t *testing.T) {
	g := of(t, 20, 8, 24)
	is(t, "Pages", g.Pages(), 2)
	is(t, "RegionLen", g.RegionLen(), 2)
	is(t, "Seg(0)", g.Seg(0), 14)
	is(t, "Sectors", g.Sectors(), 206)
	is(t, "Share", g.Share(), 59)
	is(t, "Config", g.Config(), api.Config{Blocks: 20, Segs: 8, Len: 24})
}

func TestP4_1ExampleLies(t *testing.T) {
	g := of(t, 20, 8, 24)
	for slot := range 2 {
		is(t, "Super", g.Super(slot), []int{0, 1}[slot])
		is(t, "Region", g.Region(slot), []int{2, 4}[slot])
		is(t, "base page 0", g.Page(false, 0, slot), []int{6, 7}[slot])
		is(t, "base page 1", g.Page(false, 1, slot), []int{8, 9}[slot])
		is(t, "over page 0", g.Page(true, 0, slot), []int{10, 11}[slot])
		is(t, "over page 1", g.Page(true, 1, slot), []int{12, 13}[slot])
	}
	for s, want := range []int{14, 38, 62, 86, 110, 134, 158, 182} {
		is(t, "Seg", g.Seg(s), want)
	}
}

func TestP4_1Least(t *testing.T) {
	g := of(t, 1, 8, 24)
	is(t, "Pages", g.Pages(), 1)
	is(t, "RegionLen", g.RegionLen(), 2)
	is(t, "Page(false, 0, 1)", g.Page(false, 0, 1), 7)
	is(t, "Page(true, 0, 0)", g.Page(true, 0, 0), 8)
	is(t, "Seg(0)", g.Seg(0), 10)
	is(t, "Seg(7)", g.Seg(7), 178)
	is(t, "Sectors", g.Sectors(), 202)
}

func TestP4_1Most(t *testing.T) {
	g := of(t, 64, 32, 64)
	is(t, "Pages", g.Pages(), 5)
	is(t, "RegionLen", g.RegionLen(), 4)
	is(t, "Page(false, 4, 1)", g.Page(false, 4, 1), 19)
	is(t, "Page(true, 0, 0)", g.Page(true, 0, 0), 20)
	is(t, "Page(true, 4, 1)", g.Page(true, 4, 1), 29)
	is(t, "Seg(0)", g.Seg(0), 30)
	is(t, "Seg(31)", g.Seg(31), 2014)
	is(t, "Sectors", g.Sectors(), 2078)
}

func TestP4_1Within(t *testing.T) {
	for c := range configs() {
		g, e := geom.New(c)
		if g == nil || e != api.OK {
			t.Fatalf("New(%v): got %v and error %d", c, g, e)
		}
		if g.Config() != c {
			t.Fatalf("New(%v): its Config is %v", c, g.Config())
		}
	}
}

func TestP4_1OutOfBounds(t *testing.T) {
	refused := func(c api.Config) {
		t.Helper()
		if g, e := geom.New(c); g != nil || e != api.ErrArg {
			t.Errorf("New(%v): got %v and error %d, want none and error %d", c, g, e, api.ErrArg)
		}
	}
	// The others are right: each bound is looked at by itself, whatever else holds.
	for _, c := range []api.Config{{Blocks: 1, Segs: 8, Len: 24}, {Blocks: 20, Segs: 11, Len: 30}, {Blocks: 64, Segs: 32, Len: 64}} {
		for _, n := range append([]int{0, -1, 65, 66, 128}, far...) {
			refused(api.Config{Blocks: n, Segs: c.Segs, Len: c.Len})
		}
		for _, n := range append([]int{7, 33, 6, 34, 0, -1, -8, 64}, far...) {
			refused(api.Config{Blocks: c.Blocks, Segs: n, Len: c.Len})
		}
		for _, n := range append([]int{23, 65, 22, 66, 0, -1, -24, 8}, far...) {
			refused(api.Config{Blocks: c.Blocks, Segs: c.Segs, Len: n})
		}
	}
	refused(api.Config{})
	refused(api.Config{Blocks: 65, Segs: 33, Len: 65})
	refused(api.Config{Blocks: 0, Segs: 7, Len: 23})
}

func TestP4_1Pages(t *testing.T) {
	for _, c := range [][2]int{{1, 1}, {14, 1}, {15, 1}, {16, 2}, {29, 2}, {30, 2}, {31, 3}, {45, 3}, {46, 4}, {60, 4}, {61, 5}, {64, 5}} {
		is(t, "Pages", of(t, c[0], 8, 24).Pages(), c[1])
	}
	for blocks := 1; blocks <= 64; blocks++ {
		is(t, "Pages", of(t, blocks, 19, 33).Pages(), packed(blocks, 15))
	}
}

func TestP4_1RegionLen(t *testing.T) {
	// 17 segments take 128 bytes, and 29 take 188: 30 are one byte too many for 3 sectors.
	for _, c := range [][2]int{{8, 2}, {9, 2}, {17, 2}, {18, 3}, {29, 3}, {30, 4}, {31, 4}, {32, 4}} {
		is(t, "RegionLen", of(t, 1, c[0], 24).RegionLen(), c[1])
	}
	for segs := 8; segs <= 32; segs++ {
		is(t, "RegionLen", of(t, 64, segs, 64).RegionLen(), packed(43+5*segs, 64))
	}
}

// TestP4_1Behind goes along every device by hand, one thing behind the other.
func TestP4_1Behind(t *testing.T) {
	for c := range configs() {
		g, _ := geom.New(c)
		pages, region := packed(c.Blocks, 15), packed(43+5*c.Segs, 64)
		at := 0
		next := func(what string, got, size int) {
			t.Helper()
			lies(t, g, what, got, at)
			at += size
		}
		next("Super(0)", g.Super(0), 1)
		next("Super(1)", g.Super(1), 1)
		next("Region(0)", g.Region(0), region)
		next("Region(1)", g.Region(1), region)
		for _, over := range []bool{false, true} {
			for page := range pages {
				next("a page in slot 0", g.Page(over, page, 0), 1)
				next("a page in slot 1", g.Page(over, page, 1), 1)
			}
		}
		for s := range c.Segs {
			next("a segment", g.Seg(s), c.Len)
		}
		lies(t, g, "Sectors", g.Sectors(), at)
	}
}

func TestP4_1NoSuch(t *testing.T) {
	for g := range edges(t) {
		c := g.Config()
		for _, n := range append([]int{-1, 2, 3}, far...) {
			lies(t, g, "Super of no slot", g.Super(n), -1)
			lies(t, g, "Region of no slot", g.Region(n), -1)
			for page := range g.Pages() {
				lies(t, g, "a base page in no slot", g.Page(false, page, n), -1)
				lies(t, g, "an over page in no slot", g.Page(true, page, n), -1)
			}
		}
		for _, n := range append([]int{-1, g.Pages(), g.Pages() + 1, 2 * g.Pages()}, far...) {
			for _, slot := range []int{0, 1, -1, 2, -2 * n, 2 - 2*n} {
				lies(t, g, "no base page", g.Page(false, n, slot), -1)
				lies(t, g, "no over page", g.Page(true, n, slot), -1)
			}
		}
		for _, n := range append([]int{-1, c.Segs, c.Segs + 1, 64}, far...) {
			lies(t, g, "no segment", g.Seg(n), -1)
		}
	}
}

func TestP4_1Apart(t *testing.T) {
	a, b := of(t, 20, 8, 24), of(t, 64, 32, 64)
	is(t, "Seg(7) of one", a.Seg(7), 182)
	is(t, "Seg(7) of the other", b.Seg(7), 478)
	is(t, "Config of one", a.Config(), api.Config{Blocks: 20, Segs: 8, Len: 24})
	is(t, "Config of the other", b.Config(), api.Config{Blocks: 64, Segs: 32, Len: 64})
}

func TestP4_2WhereExample(t *testing.T) {
	g := of(t, 20, 8, 24)
	where(t, g, 14, 0, 0)
	where(t, g, 15, 0, 1)
	where(t, g, 37, 0, 23)
	where(t, g, 38, 1, 0)
	where(t, g, 181, 6, 23)
	where(t, g, 182, 7, 0)
	where(t, g, 205, 7, 23)
	for _, at := range []int{-1, 0, 1, 2, 6, 10, 13, 206, 207, 229, 230} {
		nowhere(t, g, at)
	}
}

// TestP4_2Where goes along the segments by hand, and over what lies around them.
func TestP4_2Where(t *testing.T) {
	for g := range edges(t) {
		c := g.Config()
		for at := -2 * c.Len; at < g.Seg(0); at++ {
			nowhere(t, g, at)
		}
		at := g.Seg(0)
		for s := range c.Segs {
			for off := range c.Len {
				where(t, g, at, s, off)
				at++
			}
		}
		for range 2 * c.Len {
			nowhere(t, g, at)
			at++
		}
		for _, at := range far {
			nowhere(t, g, at)
		}
	}
}

func TestP4_2Half(t *testing.T) {
	for _, c := range [][2]int{{24, 11}, {25, 11}, {26, 12}, {27, 12}, {62, 30}, {63, 30}, {64, 31}} {
		is(t, "Half", of(t, 20, 8, c[0]).Half(), c[1])
	}
	for size := 24; size <= 64; size++ {
		// Cut: twice the half is all between the first sector and the last one, or one less.
		left := size - 2 - 2*of(t, 64, 32, size).Half()
		is(t, "what is left", left, size%2)
	}
}

func TestP4_2Share(t *testing.T) {
	for _, c := range [][3]int{{8, 24, 59}, {8, 25, 59}, {9, 25, 71}, {8, 26, 64}, {32, 24, 347}, {8, 64, 159}, {32, 63, 898}, {32, 64, 927}} {
		is(t, "Share", of(t, 20, c[0], c[1]).Share(), c[2])
	}
	for c := range configs() {
		g, _ := geom.New(c)
		want := -1
		for s := 3; s < c.Segs; s++ {
			want += g.Half() + 1
		}
		if g.Share() != want {
			t.Fatalf("%v: Share: got %d, want %d", c, g.Share(), want)
		}
	}
}

func TestP4_2Nil(t *testing.T) {
	var g *geom.Geom
	is(t, "Config", g.Config(), api.Config{})
	is(t, "Pages", g.Pages(), 0)
	is(t, "RegionLen", g.RegionLen(), 0)
	is(t, "Sectors", g.Sectors(), 0)
	is(t, "Half", g.Half(), 0)
	is(t, "Share", g.Share(), 0)
	for _, n := range append([]int{0, 1, -1, 2, 14}, far...) {
		is(t, "Super", g.Super(n), -1)
		is(t, "Region", g.Region(n), -1)
		is(t, "Seg", g.Seg(n), -1)
		for _, over := range []bool{false, true} {
			is(t, "Page", g.Page(over, 0, n), -1)
			is(t, "Page", g.Page(over, n, 0), -1)
			is(t, "Page", g.Page(over, n, n), -1)
		}
		s, off, ok := g.Where(n)
		is(t, "Where", [2]int{s, off}, [2]int{})
		is(t, "Where", ok, false)
	}
}

// TestP4_3OneThings counts, on every device, how many things each sector is of.
func TestP4_3OneThings(t *testing.T) {
	for c := range configs() {
		g, _ := geom.New(c)
		owners := make([]int, g.Sectors())
		lay := func(what string, at, size int) {
			t.Helper()
			if at < 0 || at+size > len(owners) {
				t.Fatalf("%v: %s: sectors %d to %d of %d", c, what, at, at+size-1, len(owners))
			}
			for i := range size {
				owners[at+i]++
			}
		}
		for slot := range 2 {
			lay("a superblock", g.Super(slot), 1)
			lay("a region", g.Region(slot), g.RegionLen())
			for page := range g.Pages() {
				lay("a base page", g.Page(false, page, slot), 1)
				lay("an over page", g.Page(true, page, slot), 1)
			}
		}
		for s := range c.Segs {
			lay("a segment", g.Seg(s), c.Len)
		}
		for at, n := range owners {
			if n != 1 {
				t.Fatalf("%v: sector %d is of %d things", c, at, n)
			}
		}
	}
}

// TestP4_3Where holds Where against what else lies there: a sector is in a segment
// where it is no other thing's, and only there.
func TestP4_3Where(t *testing.T) {
	for g := range edges(t) {
		other := 2 + 2*g.RegionLen() + 4*g.Pages()
		for at := range g.Sectors() {
			if _, _, ok := g.Where(at); ok != (at >= other) {
				t.Fatalf("%v: Where(%d): got %t, and %d sectors are of other things", g.Config(), at, ok, other)
			}
		}
		is(t, "how many are of segments", g.Sectors()-other, g.Config().Segs*g.Config().Len)
	}
}
