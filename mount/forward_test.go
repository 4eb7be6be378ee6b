package mount_test

import (
	"fmt"
	"slices"
	"testing"

	"keelson/api"
	"keelson/geom"
	"keelson/head"
	"keelson/page"
	"keelson/record"
	"keelson/region"
	"keelson/vdisk"
)

// laid is a disk that is laid by hand, to be opened.
type laid struct {
	t    *testing.T
	d    *vdisk.Disk
	g    *geom.Geom
	r    api.Region
	at   api.Pos // where the next record is laid
	seed int
}

// lay is a disk with a superblock of Mount 1, a region, and pages of which nothing is
// said; that region is turned first.
func lay(t *testing.T, c api.Config, turns ...func(r *api.Region)) *laid {
	t.Helper()
	d, g := device(t, c, beyond)
	l := &laid{t: t, d: d, g: g}
	l.r = api.Region{
		Gen: 1, View: 1, Mode: api.Backup, At: api.Pos{LSN: 1, Mount: 1},
		Base: make([]int, g.Pages()), Over: make([]int, g.Pages()), Segs: make([]api.Use, c.Segs),
	}
	l.r.Segs[0].State = api.Open
	for _, turn := range turns {
		turn(&l.r)
	}
	l.write(0, superblock(t, c, 7, 1))
	b, e := region.Encode(g, l.r)
	is(t, "region.Encode", e, api.OK)
	l.write(g.Region(0), b)
	for k := range g.Pages() {
		l.page(false, k, l.r.Base[k])
		l.page(true, k, l.r.Over[k], slices.Repeat([]int{-1}, min(15, c.Blocks-15*k))...)
	}
	l.at = l.r.At
	return l
}

// write is bytes, from a sector on.
func (l *laid) write(at int, b []byte) {
	l.t.Helper()
	for part := range slices.Chunk(b, 64) {
		is(l.t, "Write", l.d.Write(at, part), api.OK)
		at++
	}
}

// encoded is a page of these refs.
func encoded(t *testing.T, refs ...int) []byte {
	t.Helper()
	b, e := page.Encode(refs...)
	is(t, "page.Encode", e, api.OK)
	return b
}

// page is a page of these refs.
func (l *laid) page(over bool, k, slot int, refs ...int) {
	l.t.Helper()
	l.write(l.g.Page(over, k, slot), encoded(l.t, refs...))
}

// head is the head of the place's segment.
func (l *laid) head(mount int) {
	l.t.Helper()
	b, e := head.Encode(api.Head{Seg: l.at.Seg, Mount: mount, LSN: l.at.LSN, Prev: l.at.Prev})
	is(l.t, "head.Encode", e, api.OK)
	l.write(l.g.Seg(l.at.Seg), b)
	l.at.Off, l.at.Mount = 1, mount
}

// record is a record at the place, with blocks that are like no others; at the
// beginning of a segment a head of the place's Mount stands ahead of it.
func (l *laid) record(mount int, items ...api.Item) {
	l.t.Helper()
	if l.at.Off == 0 {
		l.head(l.at.Mount)
	}
	r := api.Record{Mount: mount, LSN: l.at.LSN, Prev: l.at.Prev, Items: items}
	for _, i := range items {
		if loaded(i) {
			l.seed++
			r.Blocks = append(r.Blocks, block(1000+l.seed))
		}
	}
	b, sum, e := record.Encode(r)
	is(l.t, "record.Encode", e, api.OK)
	l.write(l.g.Seg(l.at.Seg)+l.at.Off, b)
	l.at = api.Pos{Seg: l.at.Seg, Off: l.at.Off + len(b)/64, LSN: l.at.LSN + 1, Prev: sum, Mount: mount}
}

// next is a record with a Next alone, and the place in that segment.
func (l *laid) next(mount, seg int) {
	l.t.Helper()
	l.record(mount, api.Item{Kind: api.Next, Value: seg})
	l.at.Seg, l.at.Off = seg, 0
}

// found is what Open finds; it fails, unless that is OK.
func (l *laid) found(what string) *hand {
	l.t.Helper()
	h, e := opens(l.t, what, l.d)
	is(l.t, what, e, api.OK)
	if h == nil {
		l.t.FailNow()
	}
	return h
}

// refused fails, unless Open answers ErrBad.
func (l *laid) refused(what string) {
	l.t.Helper()
	opens(l.t, what, l.d)
	refused(l.t, what, l.d, api.ErrBad)
}

// pending is a disk on which block 0 lies in sector 40, 1 in 41, and pending are 1 in
// 42, and 2 nowhere; Epoch 2, Seq 5, Done 3; the log goes on at Off 5 of segment 0.
func pending(t *testing.T) *laid {
	t.Helper()
	l := lay(t, configs()[0], func(r *api.Region) {
		r.Epoch, r.Seq, r.Done = 2, 5, 3
		r.At.Off, r.At.LSN, r.At.Prev = 5, 9, 77
		r.Segs[0].Stamp, r.Segs[1] = 8, api.Use{State: api.Sealed, Stamp: 6}
	})
	l.page(false, 0, 0, 40, 41, 0)
	over := slices.Repeat([]int{-1}, 15)
	over[1], over[2] = 42, 0
	l.page(true, 0, 0, over...)
	return l
}

// tells is a base's refs that are not 0, and the numbers.
func tells(h *hand) string {
	out := ""
	for b, ref := range h.s.Image().Page(false, 0) {
		if ref != 0 {
			out += fmt.Sprint(b, " in ", ref, ", ")
		}
	}
	s := h.s.Status()
	return out + fmt.Sprint("Epoch ", s.Epoch, ", Seq ", s.Seq, ", Done ", s.Done)
}

// Each kind of Item, as a record of its own, and with a Mark behind it in another one:
// what it does, and to which table.
func TestP18_2Items(t *testing.T) {
	// The record stands in sector 19; its first block lies in 20.
	for _, x := range []struct {
		i            api.Item
		alone, marks string
	}{
		{api.Item{Kind: api.Write, Block: 3}, "0 in 40, 1 in 41, Epoch 2, Seq 3, Done 3", "0 in 40, 1 in 42, 3 in 20, Epoch 9, Seq 7, Done 7"},
		{api.Item{Kind: api.Write, Block: 1}, "0 in 40, 1 in 41, Epoch 2, Seq 3, Done 3", "0 in 40, 1 in 20, Epoch 9, Seq 7, Done 7"},
		{api.Item{Kind: api.Write, Block: 20}, "0 in 40, 1 in 41, Epoch 2, Seq 3, Done 3", "0 in 40, 1 in 42, Epoch 9, Seq 7, Done 7"},
		{api.Item{Kind: api.Write, Block: 63}, "0 in 40, 1 in 41, Epoch 2, Seq 3, Done 3", "0 in 40, 1 in 42, Epoch 9, Seq 7, Done 7"},
		{api.Item{Kind: api.Trim, Block: 0, Count: 1}, "0 in 40, 1 in 41, Epoch 2, Seq 3, Done 3", "1 in 42, Epoch 9, Seq 7, Done 7"},
		{api.Item{Kind: api.Trim, Block: 0, Count: 20}, "0 in 40, 1 in 41, Epoch 2, Seq 3, Done 3", "Epoch 9, Seq 7, Done 7"},
		{api.Item{Kind: api.Trim, Block: 0, Count: 21}, "0 in 40, 1 in 41, Epoch 2, Seq 3, Done 3", "0 in 40, 1 in 42, Epoch 9, Seq 7, Done 7"},
		{api.Item{Kind: api.Put, Block: 3}, "0 in 40, 1 in 41, 3 in 20, Epoch 2, Seq 3, Done 3", "0 in 40, 1 in 42, 3 in 20, Epoch 9, Seq 6, Done 6"},
		{api.Item{Kind: api.Put, Block: 1}, "0 in 40, 1 in 20, Epoch 2, Seq 3, Done 3", "0 in 40, 1 in 42, Epoch 9, Seq 6, Done 6"},
		{api.Item{Kind: api.Put, Block: 20}, "0 in 40, 1 in 41, Epoch 2, Seq 3, Done 3", "0 in 40, 1 in 42, Epoch 9, Seq 6, Done 6"},
		{api.Item{Kind: api.Drop, Block: 0, Count: 2}, "Epoch 2, Seq 3, Done 3", "1 in 42, Epoch 9, Seq 6, Done 6"},
		{api.Item{Kind: api.Drop, Block: 1, Count: 20}, "0 in 40, 1 in 41, Epoch 2, Seq 3, Done 3", "0 in 40, 1 in 42, Epoch 9, Seq 6, Done 6"},
		{api.Item{Kind: api.Move, Block: 0, Value: 40}, "0 in 20, 1 in 41, Epoch 2, Seq 3, Done 3", "0 in 20, 1 in 42, Epoch 9, Seq 6, Done 6"},
		{api.Item{Kind: api.Move, Block: 1, Value: 41}, "0 in 40, 1 in 20, Epoch 2, Seq 3, Done 3", "0 in 40, 1 in 42, Epoch 9, Seq 6, Done 6"},
		{api.Item{Kind: api.Move, Block: 1, Value: 42}, "0 in 40, 1 in 41, Epoch 2, Seq 3, Done 3", "0 in 40, 1 in 20, Epoch 9, Seq 6, Done 6"},
		{api.Item{Kind: api.Move, Block: 0, Value: 41}, "0 in 40, 1 in 41, Epoch 2, Seq 3, Done 3", "0 in 40, 1 in 42, Epoch 9, Seq 6, Done 6"},
		{api.Item{Kind: api.Move, Block: 20, Value: 40}, "0 in 40, 1 in 41, Epoch 2, Seq 3, Done 3", "0 in 40, 1 in 42, Epoch 9, Seq 6, Done 6"},
		{api.Item{Kind: api.Mark, Value: 3}, "0 in 40, 1 in 42, Epoch 3, Seq 6, Done 6", "0 in 40, 1 in 42, Epoch 9, Seq 7, Done 7"},
		{api.Item{Kind: api.Mark, Value: 1}, "0 in 40, 1 in 42, Epoch 1, Seq 6, Done 6", "0 in 40, 1 in 42, Epoch 9, Seq 7, Done 7"},
		{api.Item{Kind: api.Mark, Value: maxNum}, "0 in 40, 1 in 42, Epoch 2147483647, Seq 6, Done 6", "0 in 40, 1 in 42, Epoch 9, Seq 7, Done 7"},
	} {
		l := pending(t)
		l.record(1, x.i)
		alone := l.d.Crash(ones(l.d.Held())...)
		h := l.found(fmt.Sprint(x.i))
		is(t, fmt.Sprint(x.i), tells(h), x.alone)
		is(t, "Pending", h.s.Status().Pending, 0)
		is(t, "Stamp", h.s.Table().Stamp(0), 9)
		is(t, "Stamp", h.s.Table().Stamp(1), 6)
		is(t, "Pos", h.s.Pos(), api.Pos{Seg: 0, Off: l.at.Off, LSN: 10, Prev: l.at.Prev, Mount: 2})

		l.d = alone
		l.record(1, api.Item{Kind: api.Mark, Value: 9})
		h = l.found(fmt.Sprint(x.i, ", marked"))
		is(t, fmt.Sprint(x.i, ", marked"), tells(h), x.marks)
		is(t, "Stamp", h.s.Table().Stamp(0), 10)
	}
	l := pending(t)
	h := l.found("no record")
	is(t, "no record", tells(h), "0 in 40, 1 in 41, Epoch 2, Seq 3, Done 3")
	is(t, "Stamp", h.s.Table().Stamp(0), 8)
	h.holds("no record")
}

// The block of the k-th Loaded Item of a record lies k sectors behind its first one.
func TestP18_2Loaded(t *testing.T) {
	l := pending(t)
	l.record(1,
		api.Item{Kind: api.Trim, Block: 9, Count: 1}, api.Item{Kind: api.Write, Block: 3}, api.Item{Kind: api.Move, Block: 0, Value: 40},
		api.Item{Kind: api.Mark, Value: 4}, api.Item{Kind: api.Put, Block: 7}, api.Item{Kind: api.Drop, Block: 1, Count: 1})
	l.record(1,
		api.Item{Kind: api.Put, Block: 8}, api.Item{Kind: api.Write, Block: 33}, api.Item{Kind: api.Move, Block: 9, Value: 9},
		api.Item{Kind: api.Write, Block: 4}, api.Item{Kind: api.Write, Block: 5}, api.Item{Kind: api.Write, Block: 5})
	l.record(1, api.Item{Kind: api.Mark, Value: 5}, api.Item{Kind: api.Put, Block: 10})
	h := l.found("Loaded ones")
	is(t, "Loaded ones", tells(h), "0 in 21, 3 in 20, 4 in 27, 5 in 29, 7 in 22, 8 in 24, 10 in 31, Epoch 5, Seq 13, Done 13")
	h.holds("Loaded ones")
	// Five writes in a row of a record, and what is behind a Mark.
	l = pending(t)
	l.record(1,
		api.Item{Kind: api.Write, Block: 10}, api.Item{Kind: api.Write, Block: 11}, api.Item{Kind: api.Write, Block: 10},
		api.Item{Kind: api.Mark, Value: 3}, api.Item{Kind: api.Write, Block: 11}, api.Item{Kind: api.Write, Block: 12})
	is(t, "behind a Mark", tells(l.found("behind a Mark")), "0 in 40, 1 in 42, 10 in 22, 11 in 21, Epoch 3, Seq 9, Done 9")
}

// A record of a higher Mount than all ahead of it: what is pending ahead of it is
// forgotten, and so are its numbers.
func TestP18_2Mounts(t *testing.T) {
	write, mark := api.Item{Kind: api.Write, Block: 3}, api.Item{Kind: api.Mark, Value: 9}
	for _, x := range []struct {
		mounts []int // of a Write each, and then of a Mark
		want   string
	}{
		{[]int{1}, "0 in 40, 1 in 42, Epoch 9, Seq 6, Done 6"},
		{[]int{2}, "0 in 40, 1 in 41, Epoch 9, Seq 4, Done 4"},
		{[]int{maxNum}, "0 in 40, 1 in 41, Epoch 9, Seq 4, Done 4"},
		{[]int{1, 1}, "0 in 40, 1 in 42, 3 in 20, Epoch 9, Seq 7, Done 7"},
		{[]int{1, 2}, "0 in 40, 1 in 41, Epoch 9, Seq 4, Done 4"},
		{[]int{2, 2}, "0 in 40, 1 in 41, 3 in 20, Epoch 9, Seq 5, Done 5"},
		{[]int{2, 3}, "0 in 40, 1 in 41, Epoch 9, Seq 4, Done 4"},
		{[]int{1, 2, 2}, "0 in 40, 1 in 41, 3 in 22, Epoch 9, Seq 5, Done 5"},
		{[]int{2, 2, 2}, "0 in 40, 1 in 41, 3 in 22, Epoch 9, Seq 6, Done 6"},
		{[]int{1, 2, 5, 5}, "0 in 40, 1 in 41, 3 in 24, Epoch 9, Seq 5, Done 5"},
		{[]int{1, 2, 1}, "0 in 40, 1 in 41, Epoch 2, Seq 3, Done 3"}, // the last one doesn't follow
	} {
		l := pending(t)
		for _, n := range x.mounts[:len(x.mounts)-1] {
			l.record(n, write)
		}
		l.record(x.mounts[len(x.mounts)-1], mark)
		is(t, fmt.Sprint(x.mounts), tells(l.found(fmt.Sprint(x.mounts))), x.want)
	}
	// Puts, Moves and Drops of the lower Mount stand.
	l := pending(t)
	l.record(1, api.Item{Kind: api.Put, Block: 5}, api.Item{Kind: api.Move, Block: 0, Value: 40}, api.Item{Kind: api.Drop, Block: 1, Count: 1})
	l.record(2, mark)
	is(t, "puts", tells(l.found("puts")), "0 in 21, 5 in 20, Epoch 9, Seq 4, Done 4")
	// A Mark, and what is behind it: a forgotten number is that of the last Mark.
	l = pending(t)
	l.record(1, write, mark, write)
	l.record(2, write)
	is(t, "marked, and on", tells(l.found("marked, and on")), "0 in 40, 1 in 42, 3 in 20, Epoch 9, Seq 7, Done 7")
}

// A head of a higher Mount is none of the records: the record behind it, of its Mount,
// is above all ahead of it.
func TestP18_2HeadsMount(t *testing.T) {
	for _, x := range []struct {
		head, record int
		want         string
	}{
		{1, 1, "0 in 40, 1 in 42, 3 in 34, Epoch 9, Seq 7, Done 7"},
		{1, 2, "0 in 40, 1 in 41, Epoch 9, Seq 4, Done 4"},
		{2, 2, "0 in 40, 1 in 41, Epoch 9, Seq 4, Done 4"},
		{2, 3, "0 in 40, 1 in 41, Epoch 9, Seq 4, Done 4"},
		{3, 2, "0 in 40, 1 in 41, Epoch 2, Seq 3, Done 3"}, // it doesn't follow
	} {
		l := pending(t)
		for range 7 {
			l.record(1, api.Item{Kind: api.Put, Block: 15})
		}
		l.record(1, api.Item{Kind: api.Write, Block: 3})
		l.next(1, 2)
		l.head(x.head)
		l.record(x.record, api.Item{Kind: api.Mark, Value: 9})
		h := l.found(fmt.Sprint("a head of ", x.head))
		is(t, fmt.Sprint("a head of ", x.head, ", a record of ", x.record), tells(h), x.want)
	}
	// Likewise at the beginning of the first segment.
	for mount, want := range []string{1: "Epoch 9, Seq 6, Done 6", 2: "Epoch 9, Seq 4, Done 4"} {
		if mount == 0 {
			continue
		}
		l := lay(t, configs()[0], func(r *api.Region) { r.Seq, r.Done = 5, 3 })
		l.page(true, 0, 0, slices.Repeat([]int{0}, 15)...)
		l.head(mount)
		l.record(mount, api.Item{Kind: api.Mark, Value: 9})
		h := l.found("a head at first")
		is(t, fmt.Sprint("a head of ", mount, " at first"), tells(h), want)
		h.holds("a head at first")
	}
}

// A Next: the segment where it goes on is Open, the one that it leaves Sealed; Stamps
// are the last LSN of each.
func TestP18_2Next(t *testing.T) {
	l := lay(t, configs()[0], func(r *api.Region) {
		r.At.LSN = 40
		r.Segs[1] = api.Use{State: api.Sealed, Stamp: 3}
		r.Segs[5].Stamp = 8
	})
	put := api.Item{Kind: api.Put, Block: 3}
	l.record(1, put)
	l.next(1, 5)
	l.record(1, put)
	l.record(2, put)
	l.next(2, 7)
	l.record(2, put)
	h := l.found("over three segments")
	want := []api.Use{{State: api.Sealed, Stamp: 41}, {State: api.Sealed, Stamp: 3}, {}, {}, {}, {State: api.Sealed, Stamp: 44}, {}, {State: api.Open, Stamp: 45}}
	same(t, "Uses", h.s.Table().Uses(false), want)
	is(t, "Pos", h.s.Pos(), api.Pos{Seg: 7, Off: 3, LSN: 46, Prev: l.at.Prev, Mount: 2})
	is(t, "Live", h.s.Table().Live(7), 1)
	is(t, "Live", h.s.Table().Live(0), 0)
	h.holds("over three segments")
	// A head alone, and no head.
	for off, want := range []act{{sector: 14 + 24*2, data: string(zeros())}, {sector: 14 + 24*2 + 1, data: string(zeros())}} {
		l := lay(t, configs()[0])
		l.record(1, put)
		l.next(1, 2)
		if off == 1 {
			l.head(1)
		}
		h := l.found("a new segment")
		is(t, "Pos", h.s.Pos(), api.Pos{Seg: 2, Off: off, LSN: 3, Prev: l.at.Prev, Mount: 2})
		is(t, "zeros", h.acts[len(h.acts)-3], want)
		same(t, "Uses", h.s.Table().Uses(false), []api.Use{{State: api.Sealed, Stamp: 2}, {}, {State: api.Open}, {}, {}, {}, {}, {}})
		h.holds("a new segment")
		h.do(writes(3, 5), marks(1))
		h.holds("a new segment, and on")
		h.none("a new segment, and on")
	}
}

// A Next to a segment that isn't Free, or is none, leaves no Open one where it ends.
func TestP18_2NextNowhere(t *testing.T) {
	for to, ok := range []bool{0: false, 1: false, 2: true, 7: true, 8: false, 31: false} {
		if to > 2 && to < 7 || to > 8 && to < 31 {
			continue
		}
		for n := range 3 {
			l := lay(t, configs()[0], func(r *api.Region) { r.Segs[1].State = api.Sealed })
			l.record(1, api.Item{Kind: api.Put, Block: 3})
			if to < 8 {
				l.next(1, to)
			} else {
				l.record(1, api.Item{Kind: api.Next, Value: to})
			}
			if n > 0 && to > 0 && to < 8 {
				l.head(1)
			}
			if n > 1 && to > 0 && to < 8 {
				l.record(1, api.Item{Kind: api.Put, Block: 4})
			}
			what := fmt.Sprint("Next to ", to, ", ", n)
			if ok {
				l.found(what)
			} else {
				l.refused(what)
			}
		}
	}
	// Through one that is not Free, and on to one that is.
	l := lay(t, configs()[0], func(r *api.Region) { r.Segs[1].State = api.Sealed })
	l.next(1, 1)
	l.next(1, 2)
	same(t, "Uses", l.found("through a Sealed one").s.Table().Uses(false), []api.Use{{State: 2, Stamp: 1}, {State: 2, Stamp: 2}, {State: 1}, {}, {}, {}, {}, {}})
	// Back to where it was.
	l = lay(t, configs()[0], func(r *api.Region) { r.At.Off = 12 })
	l.next(1, 2)
	l.next(1, 0)
	l.refused("back again")
	// More than one in a record: it goes on by the first; each is opened.
	l = lay(t, configs()[0])
	l.record(1, api.Item{Kind: api.Next, Value: 4}, api.Item{Kind: api.Next, Value: 3}, api.Item{Kind: api.Put, Block: 3})
	h := l.found("two of them")
	is(t, "Seg", h.s.Pos().Seg, 4)
	same(t, "Uses", h.s.Table().Uses(false), []api.Use{{State: 2, Stamp: 1}, {}, {}, {State: 1}, {State: 1}, {}, {}, {}})
	is(t, "an Item behind them", h.refs[base][3], 16)
}

// Ends that may be, and some that may not: behind the segment's last sector, and at an
// LSN above all.
func TestP18_2End(t *testing.T) {
	put, drop := api.Item{Kind: api.Put, Block: 3}, api.Item{Kind: api.Drop, Block: 3, Count: 1}
	for _, x := range []struct {
		off, lsn int
		items    []api.Item
		ok       bool
	}{
		{23, 1, nil, true},
		{23, 1, []api.Item{drop}, false},
		{22, 1, []api.Item{drop}, true},
		{22, 1, []api.Item{put}, false},
		{21, 1, []api.Item{put}, true},
		{17, 1, []api.Item{put, put, put, put, put, put}, false},
		{16, 1, []api.Item{put, put, put, put, put, put}, true},
		{5, maxNum, nil, true},
		{5, maxNum, []api.Item{drop}, false},
		{5, maxNum - 1, []api.Item{drop}, true},
		{0, maxNum, []api.Item{drop}, false},
		{0, maxNum - 1, []api.Item{put}, true},
	} {
		l := lay(t, configs()[0], func(r *api.Region) { r.At.Off, r.At.LSN = x.off, x.lsn })
		if x.items != nil {
			l.record(1, x.items...)
		}
		what := fmt.Sprint("Off ", x.off, ", LSN ", x.lsn, ", ", len(x.items))
		if !x.ok {
			l.refused(what)
			continue
		}
		h := l.found(what)
		is(t, what, h.s.Pos().Off, l.at.Off)
		is(t, what, h.s.Pos().LSN, l.at.LSN)
		h.holds(what)
	}
	// There is no word of a Seq that is above all numbers.
	l := lay(t, configs()[0], func(r *api.Region) { r.Seq, r.Done = maxNum, maxNum })
	l.record(1, api.Item{Kind: api.Mark, Value: 1})
	is(t, "a great Seq", l.found("a great Seq").s.Status().Seq, maxNum+1)
	// A record that would reach past the segment's end is none.
	l = lay(t, configs()[0], func(r *api.Region) { r.At.Off = 23 })
	l.record(1, put)
	is(t, "past the end", l.found("past the end").s.Pos().Off, 23)
}

// What a log leads to that has anything in it: records of any Items, of rising Mounts,
// over segments of all States, spoilt here and there.
func TestP18_2AnyLog(t *testing.T) {
	t.Parallel()
	found, bad := 0, 0
	for seed := range 3000 {
		r := rule(seed)
		l := anyDisk(t, &r)
		for range r.pick(12) {
			if !l.anyRecord(&r) {
				break
			}
		}
		if r.pick(3) == 0 {
			l.write(r.pick(l.g.Sectors()), block(seed))
		}
		if r.pick(8) == 0 {
			l.d.Fault(r.pick(l.g.Sectors()), true)
		}
		h, e := opens(t, fmt.Sprint("rule ", seed), l.d)
		if h == nil {
			bad++
			is(t, "an error", e == api.ErrBad || e == api.ErrRead, true)
		} else {
			found++
			anyUse(h, &r)
		}
		if t.Failed() {
			t.Fatal("rule", seed)
		}
	}
	is(t, fmt.Sprint("found ", found, ", bad ", bad), found > 1000 && bad > 300, true)
}

// anyDisk is a disk with numbers and refs by a rule.
func anyDisk(t *testing.T, r *rule) *laid {
	t.Helper()
	c := configs()[r.pick(len(configs()))]
	c.Blocks = 1 + r.pick(64)
	g, _ := geom.New(c)
	l := lay(t, c, func(x *api.Region) {
		x.Gen, x.View, x.Mode, x.Epoch = 1+r.pick(9), 1+r.pick(9), 1+r.pick(2), r.pick(9)
		x.Done = r.pick(9)
		x.Seq = x.Done + r.pick(9)
		for s := range x.Segs {
			x.Segs[s] = api.Use{State: 2 * r.pick(2), Stamp: r.pick(99)}
		}
		x.At = api.Pos{Seg: r.pick(c.Segs), Off: r.pick(2) * r.pick(c.Len), LSN: 1 + r.pick(99), Prev: r.pick(99), Mount: 1 + r.pick(3)}
		x.Segs[x.At.Seg].State = api.Open
		for k := range x.Base {
			x.Base[k], x.Over[k] = r.pick(2), r.pick(2)
		}
	})
	for k := range g.Pages() {
		for table, slots := range [][]int{l.r.Base, l.r.Over} {
			refs := make([]int, min(15, c.Blocks-15*k))
			for b := range refs {
				switch r.pick(4) {
				case 0:
					refs[b] = -table
				case 1:
					refs[b] = g.Seg(0) + r.pick(c.Len*c.Segs)
				}
			}
			l.page(table == over, k, slots[k], refs...)
		}
	}
	l.d.Write(r.pick(2), superblock(t, c, r.pick(99), 1+r.pick(9)))
	return l
}

// anyRecord is a record by a rule; it tells whether another one may be laid behind it.
func (l *laid) anyRecord(r *rule) bool {
	l.t.Helper()
	c := l.g.Config()
	if l.at.Off == 0 {
		l.head(l.at.Mount + r.pick(2))
	}
	mount := l.at.Mount + r.pick(6)/5
	if c.Len-l.at.Off < 9 || r.pick(9) == 0 {
		to := r.pick(c.Segs)
		l.next(mount, to)
		return to != l.r.At.Seg
	}
	var items []api.Item
	for range 1 + r.pick(6) {
		b := r.pick(min(64, c.Blocks+3))
		i := api.Item{Kind: 1 + r.pick(6), Block: b}
		switch i.Kind {
		case api.Trim, api.Drop:
			i.Count = 1 + r.pick(64-b)
			if r.pick(3) > 0 {
				i.Count = 1
			}
		case api.Mark:
			i = api.Item{Kind: api.Mark, Value: 1 + r.pick(99)}
		case api.Move:
			i.Value = 1 + r.pick(l.g.Sectors())
			if refs := l.refs(r.pick(2) == 0, b); refs > 0 {
				i.Value = refs
			}
		}
		items = append(items, i)
	}
	l.record(mount, items...)
	return true
}

// refs is what a block had in a table at first; 0 of no block.
func (l *laid) refs(overs bool, b int) int {
	k, slots := b/15, l.r.Base
	if overs {
		slots = l.r.Over
	}
	if k >= len(slots) {
		return 0
	}
	got, _ := l.d.Read(l.g.Page(overs, k, slots[k]))
	refs, _ := page.Decode(got)
	return refs[b%15]
}

// anyUse is some calls of a store that was found, beside what is kept by hand.
func anyUse(h *hand, r *rule) {
	h.t.Helper()
	// What was laid by hand may have refs that no store has: in segments that are Free.
	for _, s := range h.free() {
		if h.live(h.g, s) > 0 {
			return
		}
	}
	for k := range h.d.Sectors() {
		h.d.Fault(k, false)
	}
	l := lives(h)
	for k := range 12 {
		l.answers(l.picked(r, k))
	}
	h.tells("in use")
	h.do(checks())
	h.holds("in use")
}
