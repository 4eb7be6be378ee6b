package mount_test

import (
	"bytes"
	"fmt"
	"slices"
	"testing"

	"keelson/api"
	"keelson/geom"
	"keelson/mount"
	"keelson/region"
	"keelson/store"
	"keelson/super"
	"keelson/vdisk"
)

// shapes are configs with each number of blocks, of segments, and of sectors of one.
func shapes() []api.Config {
	l := configs()
	for n := 1; n <= 64; n++ {
		l = append(l, api.Config{Blocks: n, Segs: 8, Len: 24})
	}
	for n := 8; n <= 32; n++ {
		l = append(l, api.Config{Blocks: 20, Segs: n, Len: 24})
	}
	for n := 24; n <= 64; n++ {
		l = append(l, api.Config{Blocks: 20, Segs: 8, Len: n})
	}
	return l
}

// refused fails unless an Open answers that, and does nothing.
func refused(t *testing.T, what string, d *vdisk.Disk, want api.Errno) {
	t.Helper()
	acts, held := d.Acts(), d.Held()
	s, e := mount.Open(d)
	is(t, what, e, want)
	is(t, what+": a store", s != nil, false)
	is(t, what+": Acts", d.Acts(), acts)
	is(t, what+": Held", d.Held(), held)
}

// A store of New, of each shape, opened at once, and once more, and used then.
func TestP18_1New(t *testing.T) {
	for n, c := range shapes() {
		h := made(t, c, []int{0, 1, 7, 258, maxNum}[n%5])
		what := fmt.Sprint(c)
		h = h.none(what)
		h = h.all(what + ", again")
		is(t, what, h.s.Status(), api.Status{Mode: 1, View: 1, Mount: 3, Gen: 1, Free: c.Segs - 1})
		is(t, what, h.s.Pos(), api.Pos{LSN: 1, Mount: 3})
		h.do(writes(c.Blocks-1, 5), marks(1), writes(0, 6))
		h = h.all(what + ", written")
		is(t, what, h.s.Status(), api.Status{Mode: 1, View: 1, Epoch: 1, Seq: 2, Done: 2, Mount: 4, Gen: 1, Free: c.Segs - 1, Live: 1})
		if t.Failed() {
			t.FailNow()
		}
	}
}

// A disk as it is, not behind a crash: what is held there is found, and safe then.
func TestP18_1Held(t *testing.T) {
	h := small(t)
	h.do(writes(3, 5), marks(1))
	for k := range 30 {
		h.do(writes(k%20, k))
	}
	is(t, "something is held", h.d.Held() > 20, true)
	n, e := opens(t, "a disk as it is", h.d)
	is(t, "Open", e, api.OK)
	n.holds("a disk as it is")
	is(t, "Held", h.d.Held(), 0)
	again, _ := opens(t, "behind a crash", h.d.Crash())
	is(t, "again", again.moment(), n.moment())
	is(t, "LSN", again.at.LSN, n.at.LSN)
}

// No disk, one that was not made, disks that are too small for a superblock each, and
// disks of zeros and of any bytes.
func TestP18_1Wrong(t *testing.T) {
	s, e := mount.Open(nil)
	is(t, "Open of nil", e, api.ErrArg)
	is(t, "a store", s != nil, false)
	refused(t, "Open of an unmade disk", &vdisk.Disk{}, api.ErrArg)
	for _, n := range []int{1, 2, 3, 14, 205, 206, 4096} {
		want := api.ErrBad
		if n == 1 {
			want = api.ErrArg // there is no sector 1
		}
		d, e := vdisk.New(n)
		is(t, "vdisk.New", e, api.OK)
		refused(t, fmt.Sprint("zeros, sectors ", n), d, want)
		for k := range n {
			d.Write(k, block(k))
		}
		refused(t, fmt.Sprint("bytes, sectors ", n), d, want)
		d.Write(0, superblock(t, configs()[0], 7, 1))
		refused(t, fmt.Sprint("a superblock, sectors ", n), d, want)
		d.Fault(0, true)
		refused(t, fmt.Sprint("a fault, sectors ", n), d, api.ErrRead)
		d.Fuse(0)
		d.Flush()
		refused(t, fmt.Sprint("no power, sectors ", n), d, api.ErrOff)
	}
}

// Any bytes behind a right superblock, a right region and right pages.
func TestP18_1AnyBytes(t *testing.T) {
	r := rule(4)
	for n, c := range configs() {
		h := made(t, c, 7)
		h.do(writes(0, 5), marks(1), checks())
		for round := range 60 {
			d := h.d.Crash()
			// From one of the sectors on, all are bytes that are nothing's.
			from := r.pick(min(d.Sectors(), 60))
			for at := from; at < d.Sectors(); at++ {
				d.Write(at, block(r.pick(1<<20)))
			}
			_, e := opens(t, fmt.Sprint("bytes from ", from, " on"), d)
			if first := h.g.Seg(0); from < h.g.Region(0) || from < first && e != api.OK {
				is(t, fmt.Sprint("round ", round, " of ", n, ", from ", from), e, api.ErrBad)
			}
		}
	}
}

// A disk of as many sectors as there need be, of one less, and of more, by the
// superblock that is chosen.
func TestP18_1Sectors(t *testing.T) {
	for _, c := range shapes() {
		what := fmt.Sprint(c)
		d, g := device(t, c, 0)
		_, e := store.New(d, c, 7)
		is(t, "New", e, api.OK)
		if n, _ := opens(t, what+", just enough", d); n == nil {
			t.Fatal("Open")
		}
		less, e := vdisk.New(g.Sectors() - 1)
		is(t, "vdisk.New", e, api.OK)
		for at, b := range contents(t, d)[:less.Sectors()] {
			less.Write(at, []byte(b))
		}
		refused(t, what+", one less", less, api.ErrBad)
	}
	// A greater device's superblock, the newer one, and the elder one.
	for mount := range 3 {
		h := small(t)
		h.d.Write(0, superblock(t, configs()[3], 7, mount+1))
		if _, e := opens(t, "a greater one", h.d); mount+1 < 2 {
			is(t, "of a like Mount", e, api.ErrBad)
		}
	}
	// It is asked ahead of the regions: a fault there isn't met.
	less, _ := vdisk.New(205)
	less.Write(1, superblock(t, configs()[0], 7, 1))
	less.Fault(2, true)
	refused(t, "a fault behind", less, api.ErrBad)
}

// Each two superblocks: the newer one is chosen, and the new one goes to its own slot.
func TestP18_1Superblocks(t *testing.T) {
	c := configs()[0]
	kinds := func(id int) [][]byte {
		spoilt := superblock(t, c, id, 9)
		spoilt[20]++
		l := [][]byte{zeros(), block(1), spoilt}
		for _, mount := range []int{1, 2, 3, 4, 255, 256, 1 << 20, maxNum - 1, maxNum} {
			l = append(l, superblock(t, c, id, mount))
		}
		return l
	}
	for i, a := range kinds(1) {
		for j, b := range kinds(2) {
			h := small(t)
			h.d.Write(0, a)
			h.d.Write(1, b)
			what := fmt.Sprint("superblocks ", i, " and ", j)
			n, e := opens(t, what, h.d)
			switch {
			case i < 3 && j < 3 || i == 11 || j == 11:
				is(t, what, e, api.ErrBad)
			case e != api.OK:
				t.Errorf("%s: got %d", what, e)
			default:
				id := 1
				if i < 3 || j > i {
					id = 2
				}
				is(t, what, n.id, id)
				got, _ := h.d.Read(n.at.Mount % 2)
				is(t, what, string(got), string(superblock(t, c, id, n.at.Mount)))
			}
		}
	}
	own, _, _ := super.Choose(superblock(t, c, 7, 1), zeros())
	is(t, "the chapter's numbers", own.Config, c)
}

// Each two regions: the newer one is chosen; numbers of all of them are taken on.
func TestP18_1Regions(t *testing.T) {
	for i := range 6 {
		for j := range 6 {
			l := lay(t, configs()[0])
			kinds := func(slot, k int) {
				r := l.r
				r.Gen, r.View, r.Mode, r.Epoch, r.Seq, r.Done = k, 10+slot, 1+slot, 20+slot, 40+slot, 30+slot
				r.At.LSN, r.At.Prev = 50+slot, 60+slot
				b, e := region.Encode(l.g, r)
				switch k {
				case 0:
					b, e = make([]byte, 64*l.g.RegionLen()), api.OK
				case 1:
					b[5]++ // torn
				}
				is(t, "region.Encode", e, api.OK)
				l.write(l.g.Region(slot), b)
			}
			kinds(0, i)
			kinds(1, j)
			what := fmt.Sprint("regions ", i, " and ", j)
			n, e := opens(t, what, l.d)
			if i < 2 && j < 2 {
				is(t, what, e, api.ErrBad)
				continue
			}
			if n == nil {
				t.Fatal(what, int(e))
			}
			slot, gen := 0, i
			if j > i {
				slot, gen = 1, j
			}
			is(t, what, n.s.Status(), api.Status{Mode: 1 + slot, View: 10 + slot, Epoch: 20 + slot, Seq: 30 + slot, Done: 30 + slot, Mount: 2, Gen: gen, Free: 7})
			is(t, what, n.s.Pos(), api.Pos{LSN: 50 + slot, Prev: 60 + slot, Mount: 2})
			// The next region goes to the other slot.
			n.do(checks())
			n.holds(what)
			is(t, what, n.slot, 1-slot)
		}
	}
}

// Each number of a region at its least and its greatest.
func TestP18_1Numbers(t *testing.T) {
	for n, turn := range []func(r *api.Region){
		func(r *api.Region) { r.Gen = maxNum },
		func(r *api.Region) { r.View = maxNum },
		func(r *api.Region) { r.Mode = api.Primary },
		func(r *api.Region) { r.Epoch = maxNum },
		func(r *api.Region) { r.Seq = maxNum },
		func(r *api.Region) { r.Seq, r.Done = maxNum, maxNum },
		func(r *api.Region) { r.Seq, r.Done = 258, 257 },
		func(r *api.Region) { r.At.Seg = 7; r.Segs[0].State = api.Sealed; r.Segs[7].State = api.Open },
		func(r *api.Region) { r.At.Off = 23 },
		func(r *api.Region) { r.At.LSN = maxNum },
		func(r *api.Region) { r.At.Prev = maxSum },
		func(r *api.Region) { r.At.Mount = maxNum },
		func(r *api.Region) { r.Segs[3] = api.Use{State: api.Sealed, Stamp: maxNum} },
	} {
		l := lay(t, configs()[0], turn)
		h, e := opens(t, fmt.Sprint("numbers ", n), l.d)
		is(t, fmt.Sprint("numbers ", n), e, api.OK)
		if h == nil {
			continue
		}
		is(t, "Done", h.s.Status().Done, l.r.Done)
		is(t, "View", h.s.Status().View, l.r.View)
		is(t, "Prev", h.s.Pos().Prev, l.r.At.Prev)
		h.holds(fmt.Sprint("numbers ", n))
	}
}

// Pages of the base and of the over, in either slot, of each shape: the refs are
// taken from the slot that the region tells; dirty ones go to the other slot then.
func TestP18_1Slots(t *testing.T) {
	for _, c := range configs() {
		g, _ := geom.New(c)
		for pattern := range 1 << min(2*g.Pages(), 6) {
			slot := func(over bool, k int) int {
				if over {
					k += g.Pages()
				}
				return pattern >> (k % 6) & 1
			}
			l := lay(t, c, func(r *api.Region) {
				for k := range g.Pages() {
					r.Base[k], r.Over[k] = slot(false, k), slot(true, k)
				}
			})
			want := [2][]int{}
			for table, over := range []bool{false, true} {
				for k := range g.Pages() {
					refs := make([]int, min(15, c.Blocks-15*k))
					for n := range refs {
						refs[n] = g.Seg(1) + 15*k + n + 64*table
					}
					want[table] = append(want[table], refs...)
					l.page(over, k, slot(over, k), refs...)
					l.write(g.Page(over, k, 1-slot(over, k)), block(k))
				}
			}
			stood := l.d.Crash(ones(l.d.Held())...)
			// What was pending is marked, so that the over is seen.
			l.record(1, api.Item{Kind: api.Put, Block: 0}, api.Item{Kind: api.Mark, Value: 1})
			h, e := opens(t, fmt.Sprint("slots ", pattern), l.d)
			is(t, "Open", e, api.OK)
			same(t, "what was pending", h.refs[base], want[over])
			h.do(writes(c.Blocks-1, 5), checks())
			h.holds("behind a Checkpoint")

			h, e = opens(t, fmt.Sprint("slots ", pattern, ", no record"), stood)
			is(t, "Open", e, api.OK)
			same(t, "what stands", h.refs[base], want[base])
		}
	}
}

// A spoilt page is found out, and one of a slot that isn't told of is not looked at.
func TestP18_1SpoiltPages(t *testing.T) {
	for _, c := range configs() {
		g, _ := geom.New(c)
		for at := g.Page(false, 0, 0); at < g.Seg(0); at++ {
			for k, bad := range [][]byte{zeros(), block(3), bytes.Repeat([]byte{255}, 64)} {
				l := lay(t, c)
				l.write(at, bad)
				_, e := opens(t, "a spoilt page", l.d)
				want := api.OK
				if (at-g.Page(false, 0, 0))%2 == 0 {
					want = api.ErrBad
				}
				is(t, fmt.Sprint("sector ", at, ", ", k), e, want)
			}
		}
	}
}

// Refs that may be and may not be, of each block of a page, in the base and in the
// over; those behind the last block are not looked at.
func TestP18_1Refs(t *testing.T) {
	for _, c := range []api.Config{configs()[0], configs()[4], configs()[7], {Blocks: 64, Segs: 8, Len: 24}} {
		g, _ := geom.New(c)
		first, behind := g.Seg(0), g.Sectors()
		whole := lay(t, c)
		for _, over := range []bool{false, true} {
			for ref, right := range map[int]bool{
				-1: over, 0: true, 1: false, 2: false, first - 1: false, first: true, first + 1: true, first + c.Len: true,
				behind - 1: true, behind: false, behind + 1: false, 4095: false,
			} {
				for b := range 15 * g.Pages() {
					l := &laid{t: t, g: g, d: whole.d.Crash(ones(whole.d.Held())...)}
					refs := make([]int, 15)
					refs[b%15] = ref
					l.page(over, b/15, 0, refs...)
					want := api.OK
					if b < c.Blocks && !right {
						want = api.ErrBad
					}
					h, e := opens(t, "a ref", l.d)
					is(t, fmt.Sprint(ref, " of block ", b, " of ", c, ", over ", over), e, want)
					if e == api.OK && !over && b < c.Blocks {
						is(t, "the ref", h.refs[base][b], ref)
						live := 0
						if ref > 0 {
							live = 1
						}
						is(t, "live", h.s.Status().Live, live)
					}
				}
			}
		}
	}
}

// logged is a disk with a log over two segments, pages in both slots, and more.
func logged(t *testing.T) *laid {
	t.Helper()
	l := lay(t, configs()[0], func(r *api.Region) {
		r.Base[1], r.Over[0] = 1, 1
		r.At.Off, r.At.LSN = 18, 5
		r.Segs[3].State = api.Sealed
	})
	l.record(1, api.Item{Kind: api.Write, Block: 3}, api.Item{Kind: api.Write, Block: 4})
	l.record(2, api.Item{Kind: api.Mark, Value: 1})
	l.next(2, 1)
	l.head(3)
	l.record(3, api.Item{Kind: api.Write, Block: 5}, api.Item{Kind: api.Mark, Value: 2})
	return l
}

// A sector that cannot be read: each of those that Open reads, and no other one.
func TestP18_1Faults(t *testing.T) {
	l := logged(t)
	var got []int
	for at := range l.d.Sectors() {
		d := l.d.Crash(ones(l.d.Held())...)
		d.Fault(at, true)
		if _, e := opens(t, fmt.Sprint("a fault at ", at), d); e != api.OK {
			is(t, fmt.Sprint("a fault at ", at), e, api.ErrRead)
			got = append(got, at)
		}
	}
	// Superblocks, regions, pages; segment 0 from Off 18 on; segment 1, and the place
	// behind its last record.
	same(t, "those that are read", got, []int{0, 1, 2, 3, 4, 5, 6, 9, 11, 12, 32, 33, 34, 35, 36, 38, 39, 40, 41})
	for at := range l.d.Sectors() {
		l.d.Fault(at, !slices.Contains(got, at))
	}
	h, e := opens(t, "faults elsewhere", l.d)
	is(t, "Open", e, api.OK)
	is(t, "Epoch", h.epoch, 2)
}

// Errors are told in the order in which the sectors are read: one of them is spoilt,
// and any sector cannot be read.
func TestP18_1ErrorsInOrder(t *testing.T) {
	l := logged(t)
	f, e := byHand(l.d.Crash(ones(l.d.Held())...))
	is(t, "by hand", e, api.OK)
	is(t, "sectors", len(f.asked), 19)
	for _, spoilt := range f.asked {
		for fault := range l.d.Sectors() {
			d := l.d.Crash(ones(l.d.Held())...)
			d.Write(spoilt, block(1))
			d.Fault(fault, true)
			opens(t, fmt.Sprint(spoilt, " is spoilt, ", fault, " has a fault"), d)
		}
	}
	for spoilt, want := range map[int]api.Errno{6: api.ErrBad, 9: api.ErrRead, 11: api.ErrRead} {
		d := l.d.Crash(ones(l.d.Held())...)
		d.Write(spoilt, zeros())
		d.Fault(9, true)
		refused(t, fmt.Sprint(spoilt, " is spoilt, 9 has a fault"), d, want)
	}
	// A ref that may not be is told ahead of the next page's fault; the log's fault
	// ahead of a Mount that may not be.
	d := l.d.Crash(ones(l.d.Held())...)
	d.Write(6, encoded(t, 5))
	d.Fault(9, true)
	refused(t, "a ref, and a fault behind", d, api.ErrBad)
	d = l.d.Crash(ones(l.d.Held())...)
	d.Write(0, superblock(t, configs()[0], 7, maxNum))
	refused(t, "a Mount", d, api.ErrBad)
	d.Fault(41, true)
	refused(t, "a Mount, and a fault", d, api.ErrRead)
}

// gone fails unless an Open with power for so many acts does just these, of those of
// an Open that had it all.
func gone(t *testing.T, d *vdisk.Disk, whole *hand, acts int) {
	t.Helper()
	s, e := mount.Open(d)
	is(t, "Open without power for it", e, api.ErrOff)
	is(t, "a store", s != nil, false)
	is(t, "Off", d.Off(), true)
	is(t, "Acts", d.Acts(), acts+1)
	is(t, "Held", d.Held(), acts)
	has(t, "nothing held", d.Crash(), whole.was, nil)
	has(t, "all of it", d.Crash(ones(3)...), whole.was, whole.acts[:acts])
}

// What Open writes, in which order: zeros where the log ends, the superblock, a Flush.
func TestP18_3InOrder(t *testing.T) {
	for n, c := range shapes() {
		h := made(t, c, n)
		for k := range n % 40 {
			h.do(writes(k%c.Blocks, k))
		}
		h.do(marks(1))
		left := h.d.Crash()
		whole, _ := opens(t, "with power", left.Crash())
		if whole == nil {
			t.Fatal(c)
		}
		is(t, "acts", len(whole.acts), 3)
		is(t, "zeros", whole.acts[0], act{h.g.Seg(h.at.Seg) + h.at.Off, string(zeros())})
		is(t, "superblock", whole.acts[1], act{0, string(superblock(t, c, n, 2))})
		for acts := range 3 {
			d := left.Crash()
			d.Fuse(acts)
			gone(t, d, whole, acts)
		}
		d := left.Crash()
		d.Fuse(3)
		opens(t, "power for just these", d)
		has(t, "safe", d.Crash(), whole.was, whole.acts)
	}
}

// Mount upon Mount: each one is one more, and its superblock goes to the slot of its
// own; the other one stays.
func TestP18_3Mounts(t *testing.T) {
	h := small(t)
	d := h.d
	for mount := 2; mount < 40; mount++ {
		n, e := opens(t, fmt.Sprint("Mount ", mount), d)
		if n == nil {
			t.Fatal(int(e))
		}
		is(t, "Mount", n.s.Status().Mount, mount)
		is(t, "Pos", n.s.Pos().Mount, mount)
		for k := range 2 {
			got, _ := d.Read((mount - k) % 2)
			is(t, "superblock", string(got), string(superblock(t, h.c, 7, mount-k)))
		}
		if mount%3 > 0 {
			n.do(writes(3, mount))
		}
		if mount%3 > 1 {
			n.do(marks(n.epoch + 1))
		}
		if mount%5 == 0 {
			n.do(checks())
		}
		n.holds("in use")
		d = d.Crash(ones(d.Held())...)
	}
	// The greatest, and none above it.
	for last, want := range map[int]api.Errno{maxNum - 1: api.OK, maxNum: api.ErrBad} {
		h := small(t)
		h.d.Write(last%2, superblock(t, h.c, 7, last))
		h.d.Flush()
		n, e := opens(t, "a great Mount", h.d)
		is(t, "a great Mount", e, want)
		if e == api.OK {
			is(t, "the greatest Mount", n.s.Status().Mount, maxNum)
			n.do(writes(3, 5), marks(1))
			n.holds("the greatest Mount")
			refused(t, "none above", h.d.Crash(), api.ErrBad)
		}
	}
}

// Each sector that a ref tells of is live, those alone that stand, and all of them.
func TestP18_3Live(t *testing.T) {
	h := small(t)
	for k := range 50 {
		h.do(writes(k%7, k))
		if k%5 == 4 {
			h.do(marks(h.epoch + 1))
		}
	}
	h.do(trims(0, 3), marks(h.epoch+1), writes(9, 9), checks(), writes(10, 10), writes(11, 11))
	h = h.all("pending")
	is(t, "Live", h.s.Status().Live, 4)
	sum := 0
	for s := range 8 {
		sum += h.s.Table().Live(s)
	}
	is(t, "live sectors", sum, 4)
	// One sector of two blocks counts twice, as refs do.
	l := lay(t, configs()[0])
	l.page(false, 0, 0, 60, 60, 61, 38)
	l.page(false, 1, 0, 60, 205)
	n, _ := opens(t, "a sector of two", l.d)
	is(t, "Live", n.s.Table().Live(1), 5)
	is(t, "Live", n.s.Table().Live(7), 1)
}

// Write, Mark, Write, crash: the first Write is there, the second one is not; the next
// number is 3 again.
func TestP18_4Example(t *testing.T) {
	for _, all := range []bool{false, true} {
		h := small(t)
		h.do(writes(3, 5), marks(1), writes(4, 6))
		is(t, "Seq ahead", h.s.Status().Seq, 3)
		if all {
			h.do(checks())
		}
		h = h.all("the chapter's example")
		got, e := h.s.Read(3)
		is(t, "Read", e, api.OK)
		is(t, "the first Write", string(got), string(block(5)))
		for _, read := range []func(int) ([]byte, api.Errno){h.s.Read, h.s.Look} {
			got, e = read(4)
			is(t, "Read", e, api.OK)
			is(t, "the second Write", string(got), string(zeros()))
		}
		is(t, "Seq", h.s.Status().Seq, 2)
		h.do(writes(4, 7))
		is(t, "the next number", h.s.Status().Seq, 3)
		h.do(marks(2))
		h = h.none("and on")
		got, _ = h.s.Read(4)
		is(t, "the third Write", string(got), string(block(7)))
	}
}

// What was lost, written once more and lost once more, does not come back: not by
// blocks of the same bytes that stand behind it.
func TestP18_4Lost(t *testing.T) {
	lost := func(h *hand, first int) *hand {
		h.do(puts(first, 1), puts(first+1, 2), puts(first+2, 3))
		h.d.Fuse(4)
		is(t, "Sync without power for it", h.s.Sync(), api.ErrOff)
		return h
	}
	h := primary(t, configs()[0])
	h.do(puts(9, 9), syncs())
	lost(h, 0)
	// The record's first sector is there, and not its blocks.
	n, e := opens(t, "the first sector alone", h.d.Crash(1))
	is(t, "Open", e, api.OK)
	lost(n, 10)
	// And now its blocks are there, of the same bytes, and not its first sector.
	again, e := opens(t, "the blocks alone", n.d.Crash(0, 1, 1, 1))
	is(t, "Open", e, api.OK)
	is(t, "what is found", again.moment(), h.sure.moment())
	for b := range 20 {
		got, _ := again.s.Read(b)
		is(t, fmt.Sprint("block ", b), string(got) != string(zeros()), b == 9)
	}
}

// A torn superblock of an Open, and a torn region of a Checkpoint: the others hold.
func TestP18_4Torn(t *testing.T) {
	h := small(t)
	h.do(writes(3, 5), marks(1), checks(), writes(3, 6), marks(2))
	sure := h.moment()
	h.do(writes(3, 7))
	acts := len(h.acts)
	for n := 0; !h.d.Off(); n++ {
		d := h.d.Crash(ones(h.d.Held())...)
		s, _ := opens(t, "ahead of a Checkpoint", d)
		s.do(writes(3, 8))
		before := d.Acts()
		d.Fuse(n)
		_, e := s.s.Checkpoint()
		if e == api.OK {
			is(t, "acts of it", d.Acts()-before > 5, true)
			break
		}
		for torn := range 64 {
			l := ones(d.Held())
			if len(l) > 0 {
				l[len(l)-1] = 2 + 3*torn
			}
			found, e := opens(t, "torn", d.Crash(l...))
			is(t, "Open", e, api.OK)
			is(t, "what is found", found.moment(), sure)
		}
	}
	is(t, "acts", len(h.acts), acts)
}

// What is told is the caller's: turned, it turns nothing of the store.
func TestP18_4ToldTurned(t *testing.T) {
	h := small(t)
	h.do(writes(3, 5), marks(1), writes(3, 6))
	n := h.all("a crash")
	turn := func(l []byte) {
		for k := range l {
			l[k]++
		}
	}
	for b := range 20 {
		got, _ := n.s.Read(b)
		turn(got)
		got, _ = n.s.Look(b)
		turn(got)
	}
	uses := n.s.Table().Uses(false)
	clear(uses)
	clear(n.s.Image().Page(false, 0))
	n.holds("told and turned")
	// Two Opens of a disk's copies have nothing in common.
	a, b := h.none("one"), h.none("another")
	a.do(writes(3, 9), marks(2), checks())
	b.holds("the other one")
	b.do(writes(4, 9), marks(2))
	a.holds("the one")
	h.holds("the first one")
}
