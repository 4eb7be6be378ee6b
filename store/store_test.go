package store_test

import (
	"bytes"
	"fmt"
	"math"
	"slices"
	"testing"

	"keelson/api"
	"keelson/chain"
	"keelson/geom"
	"keelson/page"
	"keelson/region"
	"keelson/store"
	"keelson/super"
	"keelson/vdisk"
)

// far is what no block, count, epoch, view or ID is; some of it is one, if only its
// lowest one or four bytes are looked at.
var far = []int{
	-1, -2, -255, -256, -1 << 31, -1<<31 + 1, -1<<32 + 1, -1<<32 + 10, -1 << 32, 1 << 31, 1 << 32, 1<<32 + 1, 1<<32 + 10,
	1 << 33, 1<<40 + 1, math.MaxInt, math.MaxInt - 1, math.MinInt, math.MinInt + 1, math.MinInt + 10,
}

// shapes are configs with each number of blocks, of segments, and of sectors of one.
func shapes() []api.Config {
	l := configs()
	for n := 1; n <= 64; n++ {
		l = append(l, api.Config{Blocks: n, Segs: 8, Len: 24})
	}
	for n := 8; n <= 32; n++ {
		l = append(l, api.Config{Blocks: 20, Segs: n, Len: 24})
	}
	for n := 24; n <= 64; n++ {
		l = append(l, api.Config{Blocks: 20, Segs: 8, Len: n})
	}
	return l
}

// untouched are the acts that made a disk what it is at first.
func untouched(d *vdisk.Disk) []act {
	var l []act
	for s := range d.Sectors() {
		l = append(l, act{s, there(s)})
	}
	return append(l, act{sector: flushed})
}

// What a Format leaves, of each shape: nothing else is written.
func TestP17_1Format(t *testing.T) {
	for n, c := range shapes() {
		d, g := device(t, c)
		id := []int{0, 1, 7, 258, maxNum}[n%5]
		is(t, "Format", store.Format(d, c, id), api.OK)
		acts := append(untouched(d), formats(t, g, id, 1)...)
		has(t, fmt.Sprint("Format of ", c), d, acts)
		is(t, "Acts", d.Acts(), len(acts))
		is(t, "Held", d.Held(), 0)
	}
}

// What a Format leaves, byte by byte.
func TestP17_1FormatBytes(t *testing.T) {
	d, _ := vdisk.New(206)
	is(t, "Format", store.Format(d, api.Config{Blocks: 20, Segs: 8, Len: 24}, 258), api.OK)
	begins := func(sector int, want ...byte) {
		t.Helper()
		got, e := d.Read(sector)
		is(t, "Read", e, api.OK)
		same(t, fmt.Sprint("sector ", sector), got[:len(want)], want)
	}
	none := bytes.Repeat([]byte{255}, 60)
	begins(0, zeros()...)
	begins(1, 'K', 'S', 20, 8, 24, 2, 1, 0, 0, 1, 0, 0, 0, 0)
	begins(2, 'K', 'C', 1, 0, 0, 0, 1, 0, 0, 0, 1, 0, 0, 0, 0, 0, 0, 0, 0, 0, 0, 0, 0, 0, 0, 1, 0, 0, 0, 0, 0, 0, 0, 1, 0, 0, 0, 0, 0, 1, 0, 0, 0, 0, 0)
	begins(3, zeros()[:60]...)
	begins(4, zeros()...)
	begins(5, zeros()...)
	begins(6, zeros()[:60]...)
	begins(8, zeros()[:60]...)
	begins(10, none...)
	begins(12, append(none[:20:20], zeros()[:40]...)...)
	for s := range 206 {
		if s < 1 || s == 4 || s == 5 || s == 7 || s == 9 || s == 11 || s > 12 {
			begins(s, zeros()...)
		}
	}
}

// The power gone at each act of a Format, and of a New: what was done till then is
// there, in order, and nothing else.
func TestP17_1FormatInOrder(t *testing.T) {
	for _, c := range configs() {
		d, g := device(t, c)
		acts := formats(t, g, 7, 1)
		all := append(untouched(d), acts...)
		first := d.Acts()
		for n := range len(acts) + 1 {
			want := api.ErrOff
			if n == len(acts) {
				want = api.OK
			}
			for _, fresh := range []bool{false, true} {
				d, _ := device(t, c)
				d.Fuse(n)
				if fresh {
					s, e := store.New(d, c, 7)
					is(t, "New", e, want)
					is(t, "a store", s != nil, want == api.OK)
				} else {
					is(t, "Format", store.Format(d, c, 7), want)
				}
				is(t, "Off", d.Off(), want != api.OK)
				is(t, "Acts", d.Acts(), min(first+n+1, len(all)))
				done := all[:first+n]
				has(t, "nothing that is held", d.Crash(), done[:safe(done)])
				has(t, "all that is held", d.Crash(ones(len(acts))...), done)
			}
		}
	}
}

// A disk needs the sectors that the geometry has, and no more.
func TestP17_1FormatRoom(t *testing.T) {
	for _, c := range shapes() {
		g, _ := geom.New(c)
		n := g.Sectors()
		for _, have := range []int{1, 2, g.Seg(0), n / 2, n - c.Len, n - 1, n, n + 1, 4096} {
			d, e := vdisk.New(have)
			is(t, "vdisk.New", e, api.OK)
			e = store.Format(d, c, 1)
			s, f := store.New(d, c, 1)
			is(t, "New tells as Format", f, e)
			is(t, "a store", s != nil, e == api.OK)
			if have < n {
				is(t, fmt.Sprint("Format of ", have, " for ", n), e, api.ErrArg)
				is(t, "Acts", d.Acts(), 0)
			} else {
				is(t, fmt.Sprint("Format of ", have, " for ", n), e, api.OK)
			}
		}
	}
}

// wrong fails unless a Format and a New tell that error, and have done nothing.
func wrong(t *testing.T, d *vdisk.Disk, c api.Config, id int, want api.Errno) {
	t.Helper()
	acts, held := d.Acts(), d.Held()
	what := fmt.Sprint(" of ", c, " with ID ", id)
	is(t, "Format"+what, store.Format(d, c, id), want)
	s, e := store.New(d, c, id)
	is(t, "New"+what, e, want)
	is(t, "no store", s == nil, true)
	is(t, "Acts", d.Acts(), acts)
	is(t, "Held", d.Held(), held)
}

// What is no disk, no Config and no ID is ErrArg, and does nothing.
func TestP17_1FormatWrong(t *testing.T) {
	d, e := vdisk.New(4096)
	is(t, "vdisk.New", e, api.OK)
	c := configs()[0]
	for _, n := range append([]int{0, 65, 256 + 20, 255}, far...) {
		wrong(t, d, api.Config{Blocks: n, Segs: 8, Len: 24}, 1, api.ErrArg)
	}
	for _, n := range append([]int{0, 7, 33, 256 + 8, 255}, far...) {
		wrong(t, d, api.Config{Blocks: 20, Segs: n, Len: 24}, 1, api.ErrArg)
	}
	for _, n := range append([]int{0, 23, 65, 256 + 24, 255}, far...) {
		wrong(t, d, api.Config{Blocks: 20, Segs: 8, Len: n}, 1, api.ErrArg)
	}
	for _, id := range far {
		wrong(t, d, c, id, api.ErrArg)
	}
	wrong(t, d, api.Config{}, 1, api.ErrArg)
	for _, id := range []int{0, 1, -1, maxNum} {
		wrong(t, nil, c, id, api.ErrArg)
	}
	wrong(t, new(vdisk.Disk), c, 1, api.ErrArg)
	for _, id := range []int{0, 1, maxNum - 1, maxNum} {
		is(t, "Format", store.Format(d, c, id), api.OK)
	}
}

// stood is a superblock of a Mount, of some other device, with one bit turned or none.
func stood(t *testing.T, mount int, spoilt bool) []byte {
	t.Helper()
	b, e := super.Encode(api.Super{Config: api.Config{Blocks: 64, Segs: 32, Len: 64}, ID: 99, Mount: mount})
	is(t, "super.Encode", e, api.OK)
	if spoilt {
		b[9] ^= 1
	}
	return b
}

// The Mount is one more than that of what stood there, whatever device's it was; it is
// ErrArg, and nothing done, if there is none above.
func TestP17_1FormatOver(t *testing.T) {
	c := configs()[0]
	none := block(3)
	for n, x := range []struct {
		a, b []byte
		want int // 0: ErrArg
	}{
		{zeros(), zeros(), 1}, {none, none, 1}, {zeros(), none, 1},
		{stood(t, 1, false), none, 2}, {none, stood(t, 1, false), 2},
		{stood(t, 5, false), none, 6}, {none, stood(t, 5, false), 6},
		{stood(t, 5, false), stood(t, 9, false), 10}, {stood(t, 9, false), stood(t, 5, false), 10},
		{stood(t, 8, false), stood(t, 9, false), 10}, {stood(t, 9, false), stood(t, 8, false), 10},
		{stood(t, 6, false), stood(t, 6, false), 7},
		{stood(t, 9, true), stood(t, 5, false), 6}, {stood(t, 5, false), stood(t, 9, true), 6},
		{stood(t, 9, true), stood(t, 9, true), 1},
		{stood(t, 9, true), none, 1}, {none, stood(t, 9, true), 1},
		{stood(t, maxNum-1, false), none, maxNum}, {none, stood(t, maxNum-1, false), maxNum},
		{stood(t, maxNum-1, false), stood(t, maxNum-2, false), maxNum},
		{stood(t, maxNum, false), none, 0}, {none, stood(t, maxNum, false), 0},
		{stood(t, maxNum, false), stood(t, maxNum-1, false), 0}, {stood(t, 1, false), stood(t, maxNum, false), 0},
		{stood(t, maxNum, false), stood(t, maxNum, false), 0},
		{stood(t, maxNum, true), stood(t, 3, false), 4}, {stood(t, 3, false), stood(t, maxNum, true), 4},
	} {
		d, g := device(t, c)
		d.Write(0, x.a)
		d.Write(1, x.b)
		acts := append(untouched(d), act{0, string(x.a)}, act{1, string(x.b)})
		if x.want == 0 {
			wrong(t, d, c, 7, api.ErrArg)
			has(t, "behind ErrArg", d, acts)
			continue
		}
		s, e := store.New(d, c, 7)
		is(t, fmt.Sprint("New over ", n), e, api.OK)
		has(t, fmt.Sprint("New over ", n), d, append(acts, formats(t, g, 7, x.want)...))
		is(t, "Acts", d.Acts(), len(acts)+len(formats(t, g, 7, x.want)))
		is(t, "Status", s.Status(), api.Status{Mode: 1, View: 1, Mount: x.want, Gen: 1, Free: 7})
		is(t, "Pos", s.Pos(), position(x.want))
	}
}

// One Format behind the other: each Mount is one more, and the superblock lies in the
// one slot and the other.
func TestP17_1FormatAgain(t *testing.T) {
	for _, c := range configs()[:3] {
		d, g := device(t, c)
		acts := untouched(d)
		for mount := 1; mount <= 6; mount++ {
			is(t, "Format", store.Format(d, c, 100*mount), api.OK)
			acts = append(acts, formats(t, g, 100*mount, mount)...)
			has(t, fmt.Sprint("Format ", mount), d, acts)
			is(t, "Acts", d.Acts(), len(acts))
		}
	}
}

// A superblock that cannot be read is ErrRead, ahead of what it might tell, and behind
// ErrArg; faults elsewhere are none of it.
func TestP17_1FormatFaults(t *testing.T) {
	c := configs()[0]
	for _, faults := range [][]int{{0}, {1}, {0, 1}} {
		for _, mount := range []int{1, maxNum} {
			d, _ := device(t, c)
			d.Write(0, stood(t, mount, false))
			d.Write(1, stood(t, mount, false))
			for _, s := range faults {
				d.Fault(s, true)
			}
			wrong(t, d, c, 7, api.ErrRead)
			wrong(t, d, c, -1, api.ErrArg)
			wrong(t, d, api.Config{Blocks: 65, Segs: 8, Len: 24}, 7, api.ErrArg)
		}
	}
	d, g := device(t, c)
	for s := 2; s < d.Sectors(); s++ {
		d.Fault(s, true)
	}
	is(t, "Format", store.Format(d, c, 7), api.OK)
	acts := append(untouched(d), formats(t, g, 7, 1)...)
	has(t, "with faults elsewhere", d, acts)
}

// Without power it is ErrOff, behind ErrArg of what is handed in, and not even asked
// for an act.
func TestP17_1FormatOff(t *testing.T) {
	c := configs()[0]
	d, _ := device(t, c)
	d.Write(0, stood(t, maxNum, false))
	d.Fault(1, true)
	d.Fuse(0)
	d.Flush()
	wrong(t, d, c, 7, api.ErrOff)
	wrong(t, d, c, -1, api.ErrArg)
	wrong(t, d, c, 1<<31, api.ErrArg)
	wrong(t, d, api.Config{Blocks: 20, Segs: 33, Len: 24}, 7, api.ErrArg)
}

// A store that is new, of each shape, stands as it should.
func TestP17_1New(t *testing.T) {
	for n, c := range shapes() {
		h := made(t, c, []int{0, 1, 7, 258, maxNum}[n%5])
		h.stands(fmt.Sprint("New of ", c))
		is(t, "Status", h.s.Status(), api.Status{Mode: 1, View: 1, Mount: 1, Gen: 1, Free: c.Segs - 1})
		is(t, "Pos", h.s.Pos(), api.Pos{LSN: 1, Mount: 1})
		is(t, "Disk", h.s.Disk(), h.d)
		is(t, "Config", h.s.Geom().Config(), c)
		is(t, "Blocks", h.s.Image().Blocks(), c.Blocks)
		is(t, "State of segment 0", h.s.Table().State(0), api.Open)
	}
}

// A store over one that was used: nothing of that is read, or of any use.
func TestP17_1NewOverUsed(t *testing.T) {
	h := small(t)
	for k := range 90 {
		h.do(writes(k%20, k))
		if k%7 == 6 {
			h.do(marks(h.epoch+1), checks())
		}
	}
	h.do(raises(9, api.Primary))
	was := h.d.Acts()
	s, e := store.New(h.d, h.c, 8)
	is(t, "New", e, api.OK)
	is(t, "Acts", h.d.Acts(), was+11)
	is(t, "Status", s.Status(), api.Status{Mode: 1, View: 1, Mount: 2, Gen: 1, Free: 7})
	has(t, "over a store that was used", h.d, append(h.acts, formats(t, h.g, 8, 2)...))
	for b := range 20 {
		is(t, "Read", reads(b).on(s), bytesOf(zeros()))
		is(t, "Look", looks(b).on(s), bytesOf(zeros()))
	}
}

// Stores on disks of their own have nothing in common.
func TestP17_1Apart(t *testing.T) {
	a, b := small(t), primary(t, configs()[0])
	for k := range 60 {
		a.do(writes(k%20, k))
		b.do(puts(19-k%20, 1000+k))
		if k%5 == 4 {
			a.do(marks(a.epoch + 1))
			b.do(syncs(), checks())
		}
		a.stands("the one")
		b.stands("the other")
	}
}

// Write, Look: the new bytes; Read: the old ones; Mark: both the new ones.
func TestP17_2Example(t *testing.T) {
	h := small(t)
	old, young := block(1), block(2)
	h.do(step{call: write, a: 3, data: old}, marks(1))
	h.gives(step{call: write, a: 3, data: young}, answer{})
	h.gives(looks(3), bytesOf(young))
	h.gives(reads(3), bytesOf(old))
	h.gives(marks(2), answer{})
	h.gives(looks(3), bytesOf(young))
	h.gives(reads(3), bytesOf(young))
	h.stands("the example")
}

// Each block is written, in a record with others, and stands behind a Mark.
func TestP17_2WriteEach(t *testing.T) {
	for _, c := range configs() {
		h := made(t, c, 1)
		for b := range c.Blocks {
			h.gives(writes(b, 500+b), answer{})
			h.gives(looks(b), bytesOf(block(500+b)))
			h.gives(reads(b), bytesOf(zeros()))
			is(t, "Seq", h.s.Status().Seq, b+1)
			h.tells("written")
		}
		is(t, "Pending", h.s.Status().Pending, c.Blocks)
		h.stands("all written")
		h.do(marks(1))
		for b := range c.Blocks {
			h.gives(reads(b), bytesOf(block(500+b)))
		}
		h.stands("all marked")
		is(t, "Live", h.s.Status().Live, c.Blocks)
		is(t, "Done", h.s.Status().Done, c.Blocks+1)
	}
}

// A block that is written twice lies where it was written last, and there alone.
func TestP17_2WriteTwice(t *testing.T) {
	h := small(t)
	for k := range 5 {
		h.do(writes(3, k), writes(3, 100+k))
		is(t, "Live of segment 0", h.s.Table().Live(0), min(k+1, 2))
		is(t, "Pending", h.s.Status().Pending, 1)
		h.stands("written twice")
		h.do(marks(k + 1))
		is(t, "Live of segment 0", h.s.Table().Live(0), 1)
		h.stands("marked")
	}
}

// Each Trim, and each Drop, makes just those blocks zeros.
func TestP17_2TrimEach(t *testing.T) {
	for _, c := range []api.Config{{Blocks: 1, Segs: 8, Len: 24}, {Blocks: 17, Segs: 9, Len: 24}, {Blocks: 64, Segs: 32, Len: 64}} {
		a, b := made(t, c, 1), primary(t, c)
		for k := range c.Blocks {
			a.do(writes(k, k))
			b.do(puts(k, k))
		}
		a.do(marks(1))
		for from := range c.Blocks {
			for n := 1; n <= c.Blocks-from; n += 1 + c.Blocks/9 {
				a.gives(trims(from, n), answer{})
				b.gives(drops(from, n), answer{})
				a.do(looks(from), looks(from+n-1), reads(from))
				b.do(looks(from), reads(from+n-1))
			}
			a.tells("trimmed")
			b.tells("dropped")
			a.do(writes(from, from))
			b.do(puts(from, from), checks())
			a.do(checks())
		}
		for n := 1; n <= c.Blocks; n++ {
			a.do(trims(c.Blocks-n, n))
			b.do(drops(c.Blocks-n, n))
			a.do(checks())
			b.do(checks())
		}
		a.stands("all trimmed")
		b.stands("all dropped")
		is(t, "Pending", a.s.Status().Pending, c.Blocks)
		is(t, "Live", a.s.Status().Live, c.Blocks)
		is(t, "Live", b.s.Status().Live, 0)
		a.do(marks(2))
		is(t, "Live", a.s.Status().Live, 0)
		a.stands("all marked")
	}
}

// Where blocks lie, and what they hold, in each order of two turns of one block.
func TestP17_2Pairs(t *testing.T) {
	turns := []step{writes(3, 1), writes(3, 2), trims(3, 1), trims(2, 3), marks(0), checks()}
	for _, x := range turns {
		for _, y := range turns {
			for _, z := range turns {
				h := small(t)
				for _, one := range []step{x, y, z} {
					if one.call == mark {
						one.a = h.epoch + 1
					}
					h.do(one)
					h.stands(fmt.Sprint(x, ", ", y, ", ", z))
				}
			}
		}
	}
}

// spans are blocks and counts that no Trim and no Drop has.
func spans(blocks int) [][2]int {
	l := [][2]int{{0, 0}, {0, blocks + 1}, {1, blocks}, {blocks - 1, 2}, {blocks, 1}, {blocks, 0}, {blocks + 1, -1}, {1, -1}, {blocks, -1}}
	for _, n := range far {
		l = append(l, [2]int{0, n}, [2]int{1, n}, [2]int{blocks - 1, n}, [2]int{n, 1}, [2]int{n, 0}, [2]int{n, n})
		// Sums that wrap round to something small.
		l = append(l, [2]int{n, -n}, [2]int{n, 1 - n}, [2]int{2 - n, n}, [2]int{math.MaxInt, math.MinInt + 2 + blocks})
	}
	return l
}

// What is no block, and what has not 64 bytes, is ErrArg, and does nothing, with power
// or without.
func TestP17_2Wrong(t *testing.T) {
	for _, c := range configs()[:6] {
		a, b := made(t, c, 1), primary(t, c)
		a.do(writes(0, 5))
		b.do(puts(0, 5))
		for range 2 {
			for _, n := range append([]int{c.Blocks, c.Blocks + 1, 64, 255, 256}, far...) {
				a.refused(writes(n, 1), api.ErrArg)
				b.refused(puts(n, 1), api.ErrArg)
			}
			for _, n := range []int{0, 1, 32, 63, 65, 127, 128, 4096} {
				a.refused(step{call: write, data: make([]byte, n)}, api.ErrArg)
				b.refused(step{call: put, data: make([]byte, n)}, api.ErrArg)
			}
			for _, x := range spans(c.Blocks) {
				a.refused(trims(x[0], x[1]), api.ErrArg)
				b.refused(drops(x[0], x[1]), api.ErrArg)
			}
			a.refused(marks(0), api.ErrArg)
			a.refused(marks(2), api.ErrArg)
			if a.off {
				break
			}
			a.stands("behind what is wrong")
			b.stands("behind what is wrong")
			a.dark()
			b.dark()
		}
		a.tells("behind what is wrong, without power")
		b.tells("behind what is wrong, without power")
	}
}

// A Mark is of the next epoch, and of no other one.
func TestP17_2MarkEpochs(t *testing.T) {
	h := small(t)
	for epoch := 1; epoch <= 5; epoch++ {
		h.do(writes(epoch, epoch))
		for _, n := range append([]int{epoch - 1, epoch + 1, epoch + 2, 0, 100, maxNum, 256 + epoch, 1<<32 + epoch, -epoch}, far...) {
			h.refused(marks(n), api.ErrArg)
		}
		h.tells("behind wrong epochs")
		h.gives(marks(epoch), answer{})
		is(t, "Epoch", h.s.Status().Epoch, epoch)
		is(t, "Seq", h.s.Status().Seq, 2*epoch)
		is(t, "Done", h.s.Status().Done, 2*epoch)
		is(t, "Held", h.d.Held(), 0)
		h.stands("marked")
	}
}

// A Mark of nothing is a record, too.
func TestP17_2MarkNothing(t *testing.T) {
	h := small(t)
	for epoch := 1; epoch <= 60; epoch++ {
		h.gives(marks(epoch), answer{})
		h.tells("a Mark of nothing")
	}
	is(t, "Seq", h.s.Status().Seq, 60)
	h.stands("Marks of nothing")
}

// What was marked is safe: the last region and the log from there on tell of the last
// Mark, whatever else is lost.
func TestP17_2MarkIsSafe(t *testing.T) {
	for _, c := range configs() {
		h := made(t, c, 1)
		r := rule(c.Blocks)
		for n := range 60 {
			for k := range r.pick(9) {
				h.do(writes(r.pick(c.Blocks), 50*n+k))
			}
			if r.pick(5) == 0 {
				h.do(checks())
			}
			h.gives(marks(n+1), answer{})
			h.do(writes(r.pick(c.Blocks), 9), trims(r.pick(c.Blocks), 1))
			d := h.d.Crash()
			from := newest(t, d, h.g)
			last := from.Epoch
			for _, x := range chain.New(d, h.g, from.At).Records() {
				for _, i := range x.Items {
					if i.Kind == api.Mark {
						last = i.Value
					}
				}
			}
			is(t, "the last Mark that is safe", last, n+1)
			h.roomy()
		}
	}
}

// newest is the region of a disk that was written last.
func newest(t *testing.T, d *vdisk.Disk, g *geom.Geom) api.Region {
	t.Helper()
	r, _, e := region.Choose(g, stretch(t, d, g.Region(0), g.RegionLen()), stretch(t, d, g.Region(1), g.RegionLen()))
	is(t, "region.Choose", e, api.OK)
	return r
}

// stretch is the bytes of so many sectors.
func stretch(t *testing.T, d *vdisk.Disk, at, n int) []byte {
	t.Helper()
	var l []byte
	for k := range n {
		b, e := d.Read(at + k)
		is(t, "Read", e, api.OK)
		l = append(l, b...)
	}
	return l
}

// Each block is put, and stands at once; Seq stays.
func TestP17_2PutEach(t *testing.T) {
	for _, c := range configs() {
		h := primary(t, c)
		for b := range c.Blocks {
			h.gives(puts(b, 500+b), answer{})
			h.gives(looks(b), bytesOf(block(500+b)))
			h.gives(reads(b), bytesOf(block(500+b)))
			h.tells("put")
		}
		is(t, "Status", h.s.Status(), api.Status{Mode: 2, View: 2, Mount: 1, Gen: 2, Free: len(h.free()), Live: c.Blocks})
		h.stands("all put")
		h.inOrder("all put")
		h.do(syncs())
		is(t, "Held", h.d.Held(), 0)
		h.stands("all safe")
	}
}

// A Sync emits what waits, and flushes, in any case.
func TestP17_2Sync(t *testing.T) {
	h := primary(t, configs()[0])
	for n := range 9 {
		for k := range n {
			h.do(puts(k, 10*n+k))
		}
		acts := h.d.Acts()
		h.gives(syncs(), answer{})
		is(t, "Held", h.d.Held(), 0)
		h.stands("a Sync")
		acts = h.d.Acts()
		lsn := h.s.Pos().LSN
		h.gives(syncs(), answer{})
		is(t, "Acts of a Sync of nothing", h.d.Acts()-acts, 1)
		is(t, "LSN", h.s.Pos().LSN, lsn)
	}
	h.do(puts(1, 1), puts(2, 2), syncs(), puts(3, 3))
	d := h.d.Crash()
	for _, b := range []int{1, 2} {
		ref, _ := h.s.Image().Ref(b)
		got, e := d.Read(ref)
		is(t, "Read", e, api.OK)
		same(t, "what is safe", got, block(b))
	}
}

// Each call in the mode that is not its own is ErrMode, whatever comes with it.
func TestP17_2Modes(t *testing.T) {
	a, b := small(t), primary(t, configs()[0])
	a.do(writes(1, 1))
	b.do(puts(1, 1))
	for _, n := range append([]int{0, 1, 2, 19, 20, 64, maxNum}, far...) {
		for _, m := range []int{0, 1, 2, 20, 21, maxNum, -1, math.MaxInt, math.MinInt} {
			a.refused(puts(n, m), api.ErrMode)
			a.refused(drops(n, m), api.ErrMode)
			b.refused(writes(n, m), api.ErrMode)
			b.refused(trims(n, m), api.ErrMode)
			b.refused(raises(n, m), api.ErrMode)
		}
		a.refused(step{call: put, a: n}, api.ErrMode)
		b.refused(step{call: write, a: n}, api.ErrMode)
		b.refused(marks(n), api.ErrMode)
	}
	a.refused(syncs(), api.ErrMode)
	a.stands("behind ErrMode")
	b.stands("behind ErrMode")
}

// long and short are steps that a store takes as it stands: one with a block, one
// without.
func (h *hand) long(b, seed int) step {
	if h.mode == api.Primary {
		return puts(b, seed)
	}
	return writes(b, seed)
}

func (h *hand) short(b, n int) step {
	if h.mode == api.Primary {
		return drops(b, n)
	}
	return trims(b, n)
}

// fill writes till nothing fits any more that may not take what is spare; n and m are
// how many there are of each first, so that the log ends here and there.
func (h *hand) fill(n, m int) {
	h.t.Helper()
	for range n {
		h.do(h.short(0, 1))
	}
	for range m {
		h.do(h.long(1, m))
	}
	h.till(h.long(0, n))
	h.till(h.short(0, 1))
}

// spend moves a block till nothing at all fits any more.
func (h *hand) spend(b int) {
	h.t.Helper()
	for h.answers(moves(b, h.lies(b))).e == api.OK {
	}
	h.till(h.short(0, 1))
}

// till does a step again and again, till there is no room for it.
func (h *hand) till(x step) {
	h.t.Helper()
	e := api.OK
	for e == api.OK {
		e = h.answers(x).e
	}
	is(h.t, x.String()+" in the end", e, api.ErrSpace)
}

// lies is a sector where a block lies.
func (h *hand) lies(b int) int {
	return max(h.refs[base][b], h.refs[over][b])
}

// The order of errors: ErrMode ahead of ErrArg, ahead of ErrView and ErrOff, ahead of
// the rest.
func TestP17_2ErrorsInOrder(t *testing.T) {
	for _, mode := range []int{api.Backup, api.Primary} {
		for _, x := range []struct {
			mode         int // 0: any
			right, wrong step
			last         api.Errno // of one that is right, with power, and no room
		}{
			{api.Backup, writes(19, 1), writes(20, 1), api.ErrSpace},
			{api.Backup, writes(0, 1), step{call: write, data: make([]byte, 63)}, api.ErrSpace},
			{api.Backup, trims(19, 1), trims(19, 2), api.ErrSpace},
			{api.Backup, marks(2), marks(1), api.ErrSpace},
			{api.Primary, puts(19, 1), puts(20, 1), api.ErrSpace},
			{api.Primary, puts(0, 1), step{call: put, data: make([]byte, 65)}, api.ErrSpace},
			{api.Primary, drops(0, 20), drops(0, 21), api.ErrSpace},
			{api.Primary, syncs(), syncs(), api.OK},
			{0, reads(2), reads(20), api.OK},
			{0, reads(3), reads(-1), api.ErrRead},
			{0, looks(19), looks(1 << 32), api.OK},
			{0, looks(3), looks(20), api.ErrRead},
			{0, moves(2, 4000), moves(2, 0), api.ErrNone},
			{0, moves(2, 4000), moves(20, 4000), api.ErrNone},
			{0, moves(3, 16), moves(3, -1), api.ErrRead},
			{0, checks(), checks(), api.OK},
		} {
			h := small(t)
			h.do(writes(3, 3), marks(1))
			if mode == api.Primary {
				h.do(raises(2, api.Primary))
			}
			h.fill(0, 0)
			h.fault(16, true) // block 3's
			elsewhere := x.mode != 0 && x.mode != mode
			for _, off := range []bool{false, true} {
				if off {
					h.dark()
				}
				want := x.last
				switch {
				case elsewhere:
					want = api.ErrMode
				case off:
					want = api.ErrOff
				}
				is(t, x.right.String(), h.answers(x.right).e, want)
				want = api.ErrArg
				switch {
				case elsewhere:
					want = api.ErrMode
				case x.wrong.call == x.right.call && fmt.Sprint(x.wrong) == fmt.Sprint(x.right):
					continue
				}
				h.refused(x.wrong, want)
			}
		}
	}
}

// The power gone ahead of a call: nothing is written, and no act asked for.
func TestP17_2Off(t *testing.T) {
	for _, mode := range []int{api.Backup, api.Primary} {
		h := small(t)
		h.do(writes(3, 3), marks(1), writes(4, 4), trims(5, 2))
		if mode == api.Primary {
			h.do(raises(2, mode), puts(4, 4), drops(5, 2))
		}
		h.dark()
		was := h.s.Status()
		for _, x := range []step{
			writes(1, 1), trims(1, 1), marks(2), puts(1, 1), drops(1, 1), syncs(), reads(0), reads(3), reads(4), reads(5),
			looks(0), looks(3), looks(4), looks(5), moves(3, 16), moves(3, 17), moves(4, 18), moves(0, 1), checks(), raises(3, 1), raises(3, 2),
		} {
			if x.modes() == 0 || x.modes() == mode {
				h.refused(x, api.ErrOff)
			}
		}
		is(t, "Status", h.s.Status(), was)
		h.tells("without power")
	}
}

// The power gone at each act of a call: ErrOff, and what was done till then is there.
func TestP17_2OffInTheMidst(t *testing.T) {
	backup := func(n int) func() *hand {
		return func() *hand {
			h := small(t)
			h.do(writes(3, 3), marks(1), writes(4, 4), marks(2))
			for k := range n {
				h.do(writes(k, k))
			}
			return h
		}
	}
	primary := func(n int) func() *hand {
		return func() *hand {
			h := primary(t, configs()[0])
			for k := range n {
				h.do(puts(k, k))
			}
			return h
		}
	}
	for n, want := range []int{2, 3, 4, 5, 6, 7, 9} {
		is(t, "acts of a Mark", cut(t, backup(n), marks(3)), want)
	}
	is(t, "acts of the first Mark", cut(t, func() *hand { return small(t) }, marks(1)), 3)
	is(t, "acts of a Write that fits", cut(t, backup(5), writes(9, 9)), 0)
	is(t, "acts of a Write that does not", cut(t, backup(6), writes(9, 9)), 7)
	is(t, "acts of a Trim that does not", cut(t, backup(6), trims(9, 9)), 7)
	is(t, "acts of a Write that turns", cut(t, backup(15), writes(9, 9)), 6)
	is(t, "acts of a Put that does not fit", cut(t, primary(6), puts(9, 9)), 8)
	is(t, "acts of a Drop that does not fit", cut(t, primary(12), drops(9, 9)), 7)
	is(t, "acts of a Sync of nothing", cut(t, primary(0), syncs()), 1)
	is(t, "acts of a Sync", cut(t, primary(3), syncs()), 6)
	is(t, "acts of a Move that does not fit", cut(t, backup(6), moves(4, 18)), 7)
	is(t, "acts of a Move that fits", cut(t, backup(0), moves(4, 18)), 0)
}

// What is handed in is a copy, and stays as it is; what is answered is one, too.
func TestP17_2HandedInTurned(t *testing.T) {
	for _, mode := range []int{api.Backup, api.Primary} {
		h := small(t)
		x := writes(3, 8)
		if mode == api.Primary {
			h.do(raises(2, mode))
			x = puts(3, 8)
		}
		room := append(block(8), 91, 92, 93)
		h.do(step{call: x.call, a: 3, data: room[:64]})
		same(t, "what was handed in", room, append(block(8), 91, 92, 93))
		clear(room)
		h.gives(looks(3), bytesOf(block(8)))
		h.do(checks())
		h.stands("with what was handed in turned")
		for _, call := range []func(int) ([]byte, api.Errno){h.s.Read, h.s.Look} {
			for _, b := range []int{0, 3} {
				got, e := call(b)
				is(t, "Read", e, api.OK)
				for i := range got {
					got[i]++
				}
				_ = append(got, 1)
			}
		}
		h.stands("with what was told turned")
	}
}

// Bytes that wait are told anew each time.
func TestP17_3ToldTurnedWhileItWaits(t *testing.T) {
	h := primary(t, configs()[0])
	for k := range 5 {
		h.do(puts(k, k))
		for b := range 6 {
			got, _ := h.s.Read(b)
			clear(got)
			got, _ = h.s.Look(b)
			clear(got)
		}
		h.shows("turned")
	}
	h.do(syncs())
	h.stands("turned")
}

// A block that is untouched, trimmed, written and not marked, marked: what Read and
// Look tell.
func TestP17_3ReadAndLook(t *testing.T) {
	h := small(t)
	both := func(b int, stands, pends []byte) {
		t.Helper()
		h.gives(reads(b), bytesOf(stands))
		h.gives(looks(b), bytesOf(pends))
	}
	both(3, zeros(), zeros())
	h.do(trims(3, 1))
	both(3, zeros(), zeros())
	h.do(writes(3, 1))
	both(3, zeros(), block(1))
	h.do(marks(1))
	both(3, block(1), block(1))
	h.do(trims(0, 20))
	both(3, block(1), zeros())
	h.do(writes(3, 2))
	both(3, block(1), block(2))
	h.do(checks())
	both(3, block(1), block(2))
	h.do(trims(3, 1), marks(2))
	both(3, zeros(), zeros())
	h.do(writes(3, 4), raises(2, api.Primary))
	both(3, zeros(), zeros())
	h.do(puts(3, 5))
	both(3, block(5), block(5))
	h.do(drops(3, 1))
	both(3, zeros(), zeros())
}

// What is no block is ErrArg.
func TestP17_3ReadWrong(t *testing.T) {
	for _, c := range configs() {
		h := made(t, c, 1)
		h.do(writes(c.Blocks-1, 1))
		for _, n := range append([]int{c.Blocks, c.Blocks + 1, 64, 255, 256, 256 + c.Blocks - 1}, far...) {
			h.refused(reads(n), api.ErrArg)
			h.refused(looks(n), api.ErrArg)
			for _, old := range []int{1, 16, h.lies(c.Blocks - 1), maxNum} {
				h.refused(moves(n, old), api.ErrArg)
			}
		}
		h.stands("behind what is wrong")
	}
}

// A sector that cannot be read is ErrRead of the block that lies there, of no other
// one, and never other bytes; what waits is read all the same.
func TestP17_3Faults(t *testing.T) {
	h := small(t)
	for b := range 20 {
		h.do(writes(b, b))
	}
	h.do(marks(1))
	for b := range 15 {
		h.do(writes(b, 100+b))
	}
	is(t, "some wait", h.waits(h.refs[over][14]), true)
	for at := range h.d.Sectors() {
		h.fault(at, true)
		for b := range 20 {
			h.do(reads(b), looks(b))
			if ref := h.refs[base][b]; ref == at {
				h.refused(reads(b), api.ErrRead)
				h.refused(moves(b, at), api.ErrRead)
			}
			if ref := h.refs[over][b]; ref == at && !h.waits(at) {
				h.refused(looks(b), api.ErrRead)
				h.refused(moves(b, at), api.ErrRead)
			}
		}
		h.fault(at, false)
	}
	h.faults = map[int]bool{}
	h.stands("behind faults")
}

// With faults everywhere all that is written is numbered and laid as ever, and what is
// zeros, or waits, is read.
func TestP17_3FaultsEverywhere(t *testing.T) {
	h := small(t)
	for at := range h.d.Sectors() {
		h.fault(at, true)
	}
	for k := range 40 {
		h.do(writes(k%11, k), trims(12, 3))
		if k%9 == 8 {
			h.do(marks(h.epoch + 1))
		}
		h.tells("with faults everywhere")
		h.shows("with faults everywhere")
	}
	h.do(checks(), raises(2, api.Primary), puts(4, 4), syncs(), checks())
	for at := range h.d.Sectors() {
		h.fault(at, false)
	}
	h.stands("behind faults everywhere")
}

// A Move of what the base has, of what the over has, and of what neither does.
func TestP17_3Move(t *testing.T) {
	h := small(t)
	h.do(writes(3, 3), writes(4, 4), marks(1), writes(3, 5))
	stood, pends, others := h.refs[base][3], h.refs[over][3], h.refs[base][4]
	h.refused(moves(3, others), api.ErrNone)
	h.refused(moves(4, stood), api.ErrNone)
	h.refused(moves(5, stood), api.ErrNone)
	for _, old := range []int{1, 2, 14, 15, 205, 206, 4095, 4096, maxNum, math.MaxInt, 1<<32 + stood, 256 + stood} {
		h.refused(moves(3, old), api.ErrNone)
	}
	for _, old := range []int{0, -1, -stood, math.MinInt, -1<<32 + stood} {
		h.refused(moves(3, old), api.ErrArg)
	}
	h.stands("behind Moves of none")
	h.gives(moves(3, stood), answer{})
	is(t, "the base has it", h.refs[base][3] > pends && h.refs[over][3] == pends, true)
	h.refused(moves(3, stood), api.ErrNone)
	h.stands("moved in the base")
	h.gives(moves(3, pends), answer{})
	is(t, "the over has it", h.refs[over][3] > h.refs[base][3], true)
	h.refused(moves(3, pends), api.ErrNone)
	h.stands("moved in the over")
	h.gives(looks(3), bytesOf(block(5)))
	h.gives(reads(3), bytesOf(block(3)))
	is(t, "Seq", h.s.Status().Seq, 4)
	is(t, "Pending", h.s.Status().Pending, 1)
	is(t, "Live", h.s.Status().Live, 3)
	h.do(marks(2))
	h.stands("marked")
}

// A Move of what is trimmed, pending: what stands may be moved still.
func TestP17_3MoveTrimmed(t *testing.T) {
	h := small(t)
	h.do(writes(3, 3), marks(1), trims(0, 20))
	h.gives(moves(3, h.refs[base][3]), answer{})
	h.gives(reads(3), bytesOf(block(3)))
	h.gives(looks(3), bytesOf(zeros()))
	h.stands("moved")
	h.do(marks(2))
	h.refused(moves(3, 20), api.ErrNone)
	h.stands("marked")
}

// A block that waits is moved, too; and all of them again and again.
func TestP17_3MoveEach(t *testing.T) {
	for _, mode := range []int{api.Backup, api.Primary} {
		for _, c := range configs() {
			h := made(t, c, 1)
			for b := range c.Blocks {
				h.do(writes(b, b))
			}
			h.do(moves(c.Blocks-1, h.refs[over][c.Blocks-1]), marks(1))
			if mode == api.Primary {
				h.do(raises(2, mode))
			}
			for range 3 {
				for b := range c.Blocks {
					h.gives(moves(b, h.refs[base][b]), answer{})
					h.tells("moved")
				}
				h.do(checks())
			}
			h.stands("all moved")
			is(t, "Live", h.s.Status().Live, c.Blocks)
		}
	}
}

// A Move takes the segments that are kept, which nothing else does; without these it
// is ErrSpace.
func TestP17_3MoveSpare(t *testing.T) {
	for _, mode := range []int{api.Backup, api.Primary} {
		h := small(t)
		h.do(writes(7, 7), marks(1))
		if mode == api.Primary {
			h.do(raises(2, mode))
		}
		h.fill(0, 1)
		is(t, "Free", h.s.Status().Free, 2)
		h.gives(moves(7, h.lies(7)), answer{})
		is(t, "Free", h.s.Status().Free, 1)
		h.stands("a spare one")
		h.gives(h.long(2, 2), answer{}) // it fits behind the Move
		h.spend(7)
		is(t, "Free", h.s.Status().Free, 0)
		h.refused(moves(7, h.lies(7)), api.ErrSpace)
		h.refused(moves(7, 16), api.ErrNone)
		h.stands("none left")
		h.do(checks())
		h.gives(moves(7, h.lies(7)), answer{})
		h.stands("room again")
	}
}

// A sector that cannot be read is told ahead of ErrSpace.
func TestP17_3MoveErrors(t *testing.T) {
	h := small(t)
	h.do(writes(3, 3), writes(7, 7), marks(1))
	h.fill(0, 1)
	h.spend(7)
	h.fault(16, true)
	h.refused(moves(3, 16), api.ErrRead)
	h.fault(16, false)
	h.refused(moves(3, 16), api.ErrSpace)
	h.refused(moves(3, 18), api.ErrNone)
}

// A Checkpoint with nothing dirty, with pages of both tables, twice: which slots and
// which region it writes, and in what order.
func TestP17_4Checkpoint(t *testing.T) {
	for _, c := range configs() {
		empty := func() *hand { return made(t, c, 1) }
		full := func() *hand {
			h := made(t, c, 1)
			for b := 0; b < c.Blocks; b += 14 {
				h.do(writes(b, b))
			}
			h.do(marks(1), checks())
			for b := c.Blocks - 1; b >= 0; b -= 13 {
				h.do(writes(b, b))
			}
			return h
		}
		g, _ := geom.New(c)
		is(t, "acts", cut(t, empty, checks()), g.RegionLen()+2)
		is(t, "acts", cut(t, full, checks()) >= g.RegionLen()+2+g.Pages(), true)
		h := full()
		h.stands("ahead of a Checkpoint")
		for n := range 5 {
			gen := h.s.Status().Gen
			h.gives(checks(), answer{})
			is(t, "Gen", h.s.Status().Gen, gen+1)
			is(t, "Held", h.d.Held(), 0)
			h.stands("a Checkpoint")
			is(t, "the newest region", newest(t, h.d, h.g).Gen, gen+1)
			if n == 2 {
				h.do(writes(0, 77), marks(2))
			}
		}
	}
}

// Which of the pages are written: each one alone, of each table.
func TestP17_4EachPage(t *testing.T) {
	c := configs()[2]
	for k := range 5 {
		for _, b := range []int{15 * k, min(15*k+14, 63)} {
			for n := range 3 {
				h := made(t, c, 1)
				for range n {
					h.do(writes(b, n), checks())
				}
				h.do(writes(b, 9))
				acts := h.d.Acts()
				h.do(checks())
				// A record of two sectors, with a head at first, a page, four sectors of a region, two Flushes.
				is(t, "acts", h.d.Acts()-acts, map[bool]int{true: 10, false: 9}[n == 0])
				at := h.g.Page(true, k, (n+1)%2)
				refs, e := page.Decode(stretch(t, h.d, at, 1))
				is(t, "page.Decode", e, api.OK)
				is(t, "the ref", refs[b-15*k], h.refs[over][b])
				h.do(marks(1))
				h.do(checks())
				refs, e = page.Decode(stretch(t, h.d, h.g.Page(false, k, 1), 1))
				is(t, "page.Decode", e, api.OK)
				is(t, "the ref", refs[b-15*k], h.refs[base][b])
				h.stands("a page alone")
			}
		}
	}
}

// The segments that it tells: the Sealed ones of which nothing is live, rising.
func TestP17_4Freed(t *testing.T) {
	h := small(t)
	h.do(writes(9, 9))
	for k := range 60 {
		h.do(writes(3, k))
	}
	h.gives(checks(), segments(1, 2)) // block 9 lies in segment 0, block 3 in segment 3
	h.gives(checks(), answer{})
	is(t, "Free", h.s.Status().Free, 6)
	h.do(trims(9, 1), checks())
	is(t, "Free", h.s.Status().Free, 7)
	h.stands("freed")
	h = small(t)
	h.do(writes(3, 1), marks(1))
	for k := range 60 {
		h.do(writes(3, k))
	}
	h.gives(checks(), segments(1, 2)) // what stands lies in segment 0
	h.do(marks(2))
	h.gives(checks(), segments(0))
	h.stands("freed")
	got, _ := h.s.Checkpoint()
	is(t, "none", len(got), 0)
}

// What is told is new memory.
func TestP17_4FreedTurned(t *testing.T) {
	h := small(t)
	for k := range 60 {
		h.do(writes(3, k))
	}
	l, e := h.s.Checkpoint()
	is(t, "Checkpoint", e, api.OK)
	same(t, "freed", l, []int{0, 1, 2})
	for i := range l {
		l[i] = 99
	}
	h.should(checks())
	h.stands("what was told turned")
	h.do(writes(3, 3), checks())
	h.stands("once more")
}

// What a region tells is how things stand behind the Checkpoint.
func TestP17_4RegionTells(t *testing.T) {
	h := small(t)
	h.do(writes(3, 1), marks(1), writes(3, 2), trims(9, 2))
	h.do(checks())
	want := api.Region{
		Gen: 2, View: 1, Mode: api.Backup, Epoch: 1, Seq: 4, Done: 2, At: h.at,
		Base: []int{1, 0}, Over: []int{1, 0}, Segs: []api.Use{{State: api.Open, Stamp: 2}, {}, {}, {}, {}, {}, {}, {}},
	}
	is(t, "the region", fmt.Sprint(newest(t, h.d, h.g)), fmt.Sprint(want))
	h.do(raises(5, api.Primary), puts(16, 1))
	h.do(checks())
	want = api.Region{
		Gen: 4, View: 5, Mode: api.Primary, Epoch: 1, Seq: 2, Done: 2, At: h.at,
		Base: []int{1, 1}, Over: []int{0, 0}, Segs: []api.Use{{State: api.Open, Stamp: 3}, {}, {}, {}, {}, {}, {}, {}},
	}
	is(t, "the region", fmt.Sprint(newest(t, h.d, h.g)), fmt.Sprint(want))
}

// Raise to View, one more, MaxNum and beyond, and to a mode that is none.
func TestP17_4RaiseViews(t *testing.T) {
	h := small(t)
	h.do(writes(3, 3), marks(1), writes(3, 4), trims(5, 5))
	for _, mode := range append([]int{0, 3, 256 + 1, 256 + 2, 1<<32 + 1, 1<<32 + 2}, far...) {
		for _, view := range []int{-1, 0, 1, 2, maxNum, maxNum + 1} {
			h.refused(raises(view, mode), api.ErrArg)
		}
	}
	for _, mode := range []int{api.Backup, api.Primary} {
		for _, view := range append([]int{0}, far...) {
			h.refused(raises(view, mode), api.ErrArg)
		}
		h.refused(raises(1, mode), api.ErrView)
	}
	h.stands("behind Raises that are refused")
	h.gives(raises(2, api.Backup), answer{})
	h.stands("raised by one")
	h.do(writes(3, 5))
	h.gives(raises(100, api.Backup), answer{})
	h.stands("raised by more")
	for _, mode := range []int{api.Backup, api.Primary} {
		for _, view := range []int{1, 2, 99, 100} {
			h.refused(raises(view, mode), api.ErrView)
		}
	}
	h.gives(raises(maxNum, api.Backup), answer{})
	h.refused(raises(maxNum, api.Primary), api.ErrView)
	h.refused(raises(maxNum+1, api.Primary), api.ErrArg)
	h.stands("raised to the greatest")
	for _, view := range []int{2, 3, maxNum - 1, maxNum} {
		h := small(t)
		h.gives(raises(view, api.Primary), answer{})
		is(t, "View", h.s.Status().View, view)
		h.refused(raises(maxNum, api.Backup), api.ErrMode)
		h.refused(raises(0, 0), api.ErrMode)
		h.stands("promoted")
	}
}

// The order of a Raise's errors: ErrMode, ErrArg, ErrView, ErrOff.
func TestP17_4RaiseErrors(t *testing.T) {
	h := small(t)
	h.do(raises(5, api.Backup), writes(3, 3))
	for _, off := range []bool{false, true} {
		if off {
			h.dark()
			h.refused(raises(6, api.Backup), api.ErrOff)
			h.refused(raises(6, api.Primary), api.ErrOff)
		}
		h.refused(raises(5, 0), api.ErrArg)
		h.refused(raises(0, api.Backup), api.ErrArg)
		h.refused(raises(6, 3), api.ErrArg)
		h.refused(raises(maxNum+1, api.Primary), api.ErrArg)
		h.refused(raises(5, api.Backup), api.ErrView)
		h.refused(raises(4, api.Primary), api.ErrView)
		h.tells("behind Raises that are refused")
	}
	h = primary(t, configs()[0])
	h.dark()
	for _, x := range []step{raises(9, 1), raises(9, 2), raises(9, 0), raises(0, 1), raises(1, 1)} {
		h.refused(x, api.ErrMode)
	}
}

// With what is pending: it is forgotten, Seq is Done, and what stands stays, on the
// disk, too.
func TestP17_4RaiseForgets(t *testing.T) {
	for _, mode := range []int{api.Backup, api.Primary} {
		for n := range 9 {
			h := small(t)
			h.do(writes(3, 3), writes(4, 4), marks(1), checks())
			for k := range n {
				h.do(writes(3+k, 100+k))
			}
			if n > 4 {
				h.do(trims(4, 2), checks())
			}
			h.gives(raises(2, mode), answer{})
			is(t, "Status", h.s.Status(), api.Status{Mode: mode, View: 2, Epoch: 1, Seq: 3, Done: 3, Mount: 1, Gen: h.gen, Free: 7, Live: 2})
			h.gives(looks(3), bytesOf(block(3)))
			h.gives(reads(4), bytesOf(block(4)))
			h.stands("raised")
			r := newest(t, h.d.Crash(), h.g)
			is(t, "View", r.View, 2)
			is(t, "Mode", r.Mode, mode)
			is(t, "Seq", r.Seq, 3)
		}
	}
}

// The power gone at each act of a Raise.
func TestP17_4RaiseOff(t *testing.T) {
	for _, mode := range []int{api.Backup, api.Primary} {
		for n := range 4 {
			cut(t, func() *hand {
				h := small(t)
				h.do(writes(3, 3), marks(1))
				for k := range n {
					h.do(writes(16+k, k))
				}
				return h
			}, raises(2, mode))
		}
	}
}

// A Backup goes on behind a Raise, and numbers as ever.
func TestP17_4RaiseAndOn(t *testing.T) {
	h := small(t)
	h.do(writes(3, 3), marks(1), writes(4, 4), raises(2, api.Backup))
	h.refused(marks(1), api.ErrArg)
	h.do(writes(5, 5))
	is(t, "Seq", h.s.Status().Seq, 3)
	h.do(marks(2))
	h.stands("on as a Backup")
	h.gives(reads(4), bytesOf(zeros()))
	h.gives(reads(5), bytesOf(block(5)))
}

// The store tells its own things, which are the same each time.
func TestP17_5Own(t *testing.T) {
	h := small(t)
	d, g, u, m := h.s.Disk(), h.s.Geom(), h.s.Table(), h.s.Image()
	is(t, "Disk", d, h.d)
	h.do(writes(3, 3), marks(1), checks(), raises(2, api.Primary), puts(4, 4), checks())
	is(t, "Disk", h.s.Disk(), d)
	is(t, "Geom", h.s.Geom(), g)
	is(t, "Table", h.s.Table(), u)
	is(t, "Image", h.s.Image(), m)
	is(t, "Sectors", g.Sectors(), 206)
	is(t, "Live of segment 0", u.Live(0), 2)
	ref, ok := m.Ref(4)
	is(t, "Ref", ok && ref == h.refs[base][4], true)
}

// Status, Pos and the table behind each call.
func TestP17_5Status(t *testing.T) {
	h := small(t)
	for _, x := range []struct {
		step step
		want api.Status
	}{
		{writes(3, 1), api.Status{Mode: 1, View: 1, Seq: 1, Mount: 1, Gen: 1, Free: 7, Live: 1, Pending: 1}},
		{writes(3, 2), api.Status{Mode: 1, View: 1, Seq: 2, Mount: 1, Gen: 1, Free: 7, Live: 1, Pending: 1}},
		{trims(3, 3), api.Status{Mode: 1, View: 1, Seq: 3, Mount: 1, Gen: 1, Free: 7, Pending: 3}},
		{writes(4, 1), api.Status{Mode: 1, View: 1, Seq: 4, Mount: 1, Gen: 1, Free: 7, Live: 1, Pending: 3}},
		{marks(1), api.Status{Mode: 1, View: 1, Epoch: 1, Seq: 5, Done: 5, Mount: 1, Gen: 1, Free: 7, Live: 1}},
		{marks(3), api.Status{Mode: 1, View: 1, Epoch: 1, Seq: 5, Done: 5, Mount: 1, Gen: 1, Free: 7, Live: 1}},
		{writes(4, 2), api.Status{Mode: 1, View: 1, Epoch: 1, Seq: 6, Done: 5, Mount: 1, Gen: 1, Free: 7, Live: 2, Pending: 1}},
		{looks(4), api.Status{Mode: 1, View: 1, Epoch: 1, Seq: 6, Done: 5, Mount: 1, Gen: 1, Free: 7, Live: 2, Pending: 1}},
		{moves(4, 18), api.Status{Mode: 1, View: 1, Epoch: 1, Seq: 6, Done: 5, Mount: 1, Gen: 1, Free: 7, Live: 2, Pending: 1}},
		{checks(), api.Status{Mode: 1, View: 1, Epoch: 1, Seq: 6, Done: 5, Mount: 1, Gen: 2, Free: 7, Live: 2, Pending: 1}},
		{raises(9, 1), api.Status{Mode: 1, View: 9, Epoch: 1, Seq: 5, Done: 5, Mount: 1, Gen: 3, Free: 7, Live: 1}},
		{marks(2), api.Status{Mode: 1, View: 9, Epoch: 2, Seq: 6, Done: 6, Mount: 1, Gen: 3, Free: 7, Live: 1}},
		{writes(4, 3), api.Status{Mode: 1, View: 9, Epoch: 2, Seq: 7, Done: 6, Mount: 1, Gen: 3, Free: 7, Live: 2, Pending: 1}},
		{raises(10, 2), api.Status{Mode: 2, View: 10, Epoch: 2, Seq: 6, Done: 6, Mount: 1, Gen: 4, Free: 7, Live: 1}},
		{puts(0, 3), api.Status{Mode: 2, View: 10, Epoch: 2, Seq: 6, Done: 6, Mount: 1, Gen: 4, Free: 7, Live: 2}},
		{puts(0, 4), api.Status{Mode: 2, View: 10, Epoch: 2, Seq: 6, Done: 6, Mount: 1, Gen: 4, Free: 7, Live: 2}},
		{drops(0, 20), api.Status{Mode: 2, View: 10, Epoch: 2, Seq: 6, Done: 6, Mount: 1, Gen: 4, Free: 7}},
		{syncs(), api.Status{Mode: 2, View: 10, Epoch: 2, Seq: 6, Done: 6, Mount: 1, Gen: 4, Free: 7}},
		{checks(), api.Status{Mode: 2, View: 10, Epoch: 2, Seq: 6, Done: 6, Mount: 1, Gen: 5, Free: 7}},
	} {
		h.do(x.step)
		is(t, "Status behind "+x.step.String(), h.s.Status(), x.want)
		h.stands("behind " + x.step.String())
	}
}

// nothing fails unless each call of a store is refused.
func nothing(t *testing.T, s *store.Store, want func(x step) bool) {
	t.Helper()
	for _, n := range append([]int{0, 1, 2, 3, 19, maxNum}, far...) {
		for _, m := range append([]int{0, 1, 2, 20}, far...) {
			for call := range calls {
				for _, data := range [][]byte{nil, block(1)} {
					x := step{call: call, a: n, b: m, data: data}
					got := x.on(s)
					is(t, x.String()+" is refused", got.e != api.OK && got == told(got.e) && want(x) == (got.e == api.ErrOff), true)
				}
			}
		}
	}
}

// A nil Store: ErrOff, none, zeros, nil.
func TestP17_5Nil(t *testing.T) {
	var s *store.Store
	nothing(t, s, func(step) bool { return true })
	is(t, "Status", s.Status(), api.Status{})
	is(t, "Disk", s.Disk() == nil, true)
	is(t, "Geom", s.Geom() == nil, true)
	is(t, "Table", s.Table() == nil, true)
	is(t, "Image", s.Image() == nil, true)
	is(t, "Pos", s.Pos(), api.Pos{})
}

// A store that no call made is refused all, and ends.
func TestP17_5Unmade(t *testing.T) {
	s := new(store.Store)
	nothing(t, s, func(x step) bool { return x.call == check })
	is(t, "Status", s.Status(), api.Status{})
	is(t, "Disk", s.Disk() == nil, true)
	is(t, "Pos", s.Pos(), api.Pos{})
}

// An ErrSpace in each call that may tell it: all is as it was. What waits, and how
// much of it, differs.
func TestP17_6Space(t *testing.T) {
	for _, c := range []api.Config{configs()[0], {Blocks: 33, Segs: 9, Len: 26}} {
		for n := range 8 {
			for m := range 3 {
				a, b := made(t, c, 1), primary(t, c)
				a.do(writes(5, 5), marks(1), writes(5, 6))
				b.do(puts(5, 5))
				a.fill(n, m)
				b.fill(n, m)
				for range 2 {
					a.spaceless(writes(0, 1), writes(5, 1), trims(0, 1), trims(0, c.Blocks), marks(a.epoch+1))
					b.spaceless(puts(0, 1), puts(5, 1), drops(0, 1), drops(0, c.Blocks))
				}
				a.spend(5)
				b.spend(5)
				a.spaceless(writes(5, 1), trims(0, 1), marks(a.epoch+1), moves(5, a.refs[base][5]), moves(5, a.refs[over][5]))
				b.spaceless(puts(0, 1), drops(0, 1), moves(5, b.lies(5)))
				a.do(checks(), writes(5, 1), marks(a.epoch+1))
				b.do(checks(), puts(5, 1), syncs())
				a.stands("room again")
				b.stands("room again")
			}
		}
	}
}

// spaceless fails unless each of these is ErrSpace, and all is as it was.
func (h *hand) spaceless(l ...step) {
	h.t.Helper()
	for _, x := range l {
		was, at, acts := h.s.Status(), h.s.Pos(), h.d.Acts()
		h.refused(x, api.ErrSpace)
		is(h.t, "Status", h.s.Status(), was)
		is(h.t, "Pos", h.s.Pos(), at)
		is(h.t, "Acts", h.d.Acts(), acts)
	}
	h.stands("behind ErrSpace")
}

// A Mark fits where a Write does not.
func TestP17_6SpaceForAMark(t *testing.T) {
	h := small(t)
	k := 0
	for h.answers(writes(0, k)).e == api.OK {
		k++
	}
	is(t, "Writes", k, 108)
	h.stands("no room for a Write")
	h.gives(marks(1), answer{})
	h.stands("but for a Mark")
	h.spaceless(marks(2), trims(0, 1))
	h.gives(reads(0), bytesOf(block(107)))
	h.gives(checks(), segments(0, 1, 2, 3, 4))
	h.gives(marks(2), answer{})
	h.stands("and on")
}

// With Checkpoints in time nothing is refused, through all segments, round and round.
func TestP17_6RoundAndRound(t *testing.T) {
	for _, c := range configs() {
		a, b := made(t, c, 1), primary(t, c)
		turns, last := 0, 0
		for k := range 12 * c.Segs {
			for range 7 {
				a.gives(writes(k%c.Blocks, k), answer{})
				b.gives(puts(k%c.Blocks, k), answer{})
			}
			a.gives(marks(k+1), answer{})
			if at := a.s.Pos().Seg; at != last {
				turns, last = turns+1, at
			}
			a.roomy()
			b.roomy()
			if t.Failed() {
				t.Fatalf("step %d of %v", k, c)
			}
		}
		a.stands("round and round")
		b.stands("round and round")
		is(t, "many turns", turns > c.Segs, true)
	}
}

// roomy makes room, if there is little: blocks that lie with few others are moved, so
// that their segments are free.
func (h *hand) roomy() {
	h.t.Helper()
	if len(h.free()) > 3 {
		return
	}
	h.do(checks())
	for b := range h.c.Blocks {
		for table := range h.refs {
			ref := h.refs[table][b]
			if s, _, ok := h.g.Where(ref); ok && s != h.at.Seg && h.live(s) <= 6 {
				h.gives(moves(b, ref), answer{})
			}
		}
	}
	h.do(checks())
}

// picked is a step that a rule picks: most are right, some wrong.
func (h *hand) picked(r *rule, n int) step {
	b := r.pick(h.c.Blocks)
	count := 1 + r.pick(h.c.Blocks-b)
	switch x := r.pick(60); {
	case x == 0:
		return writes(h.c.Blocks, n)
	case x == 1:
		return trims(b, h.c.Blocks-b+1)
	case x == 2:
		return marks(h.epoch + 2*r.pick(2))
	case x == 3:
		return puts(-1, n)
	case x == 4:
		return raises(h.view, 1+r.pick(2))
	case x == 5:
		return moves(b, 1+r.pick(300))
	case x < 8:
		return checks()
	case x < 14:
		return moves(b, h.refs[r.pick(2)][b])
	case x == 14 && h.mode == api.Backup:
		return raises(h.view+1+r.pick(3), api.Backup)
	case h.mode == api.Primary && x < 19:
		return syncs()
	case h.mode == api.Primary && x < 25:
		return drops(b, count)
	case h.mode == api.Primary:
		return puts(b, n)
	case x < 19:
		return marks(h.epoch + 1)
	case x < 25:
		return trims(b, count)
	}
	return writes(b, n)
}

// Steps as a rule picks them, in Backup and then in Primary, beside what is kept by
// hand: behind each of them Read is, in Backup, what was there at the last Mark.
func TestP17_6AgainstHand(t *testing.T) {
	for n, c := range configs() {
		for seed := range 3 {
			r := rule(1000*n + seed)
			h := made(t, c, n)
			space := 0
			for k := range 900 {
				if k == 600 {
					h.do(raises(h.view+1, api.Primary))
				}
				if h.answers(h.picked(&r, k)).e == api.ErrSpace {
					space++
				}
				h.tells("in the midst")
				b := r.pick(c.Blocks)
				h.do(reads(b), looks(b))
				is(t, "what was marked", reads(b).on(h.s), bytesOf(h.marked[b]))
				if k%50 == 49 {
					h.stands("fifty steps")
				}
				if k%150 == 75 {
					h.inOrder("in the midst")
				}
				if t.Failed() {
					t.Fatalf("rule %d of %v, step %d", seed, c, k)
				}
			}
		}
	}
}

// The same steps, told twice, with a store of their own each: the same answers, and
// the same disks.
func TestP17_6Twice(t *testing.T) {
	c := configs()[5]
	a, b := made(t, c, 3), made(t, c, 3)
	r := rule(5)
	for k := range 400 {
		x := a.picked(&r, k)
		is(t, x.String(), a.answers(x), b.answers(x))
	}
	has(t, "the other's disk", b.d, a.acts)
	is(t, "no acts unlike", slices.Equal(a.acts, b.acts), true)
}
