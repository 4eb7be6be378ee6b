package writer_test

import (
	"bytes"
	"fmt"
	"math"
	"slices"
	"testing"

	"keelson/api"
	"keelson/chain"
	"keelson/geom"
	"keelson/head"
	"keelson/record"
	"keelson/region"
	"keelson/usage"
	"keelson/vdisk"
	"keelson/writer"
)

const (
	maxNum = 1<<31 - 1
	maxSum = 1<<32 - 1
)

// beyond is how many sectors the disks here have behind the last segment: nothing is
// written there.
const beyond = 10

// far is what no number of a place is; some of it is one, if only its lowest one or
// four bytes are looked at.
var far = []int{
	-1, -2, -255, -256, -1 << 31, -1<<31 + 1, -1<<32 + 1, -1<<32 + 10, -1 << 32, 1 << 32, 1<<32 + 1, 1<<32 + 10,
	1 << 33, 1<<40 + 1, math.MaxInt, math.MaxInt - 1, math.MinInt, math.MinInt + 1, math.MinInt + 10,
}

// configs are some with each number at its least and its greatest, and between;
// that of the chapter on geometry first.
func configs() []api.Config {
	return []api.Config{
		{Blocks: 20, Segs: 8, Len: 24}, {Blocks: 1, Segs: 8, Len: 64}, {Blocks: 64, Segs: 32, Len: 24},
		{Blocks: 64, Segs: 32, Len: 64}, {Blocks: 15, Segs: 9, Len: 25}, {Blocks: 31, Segs: 17, Len: 40},
	}
}

func write(block int) api.Item      { return api.Item{Kind: api.Write, Block: block} }
func trim(block, n int) api.Item    { return api.Item{Kind: api.Trim, Block: block, Count: n} }
func mark(epoch int) api.Item       { return api.Item{Kind: api.Mark, Value: epoch} }
func move(block, from int) api.Item { return api.Item{Kind: api.Move, Block: block, Value: from} }
func put(block int) api.Item        { return api.Item{Kind: api.Put, Block: block} }
func drop(block, n int) api.Item    { return api.Item{Kind: api.Drop, Block: block, Count: n} }
func next(seg int) api.Item         { return api.Item{Kind: api.Next, Value: seg} }

// kinds are items of all kinds that may be added, with their numbers at their least
// and their greatest.
func kinds() []api.Item {
	return []api.Item{
		write(0), write(63), trim(0, 1), trim(0, 64), trim(63, 1), mark(1), mark(maxNum), move(0, 1), move(63, 4095),
		put(0), put(63), drop(0, 1), drop(0, 64), drop(63, 1),
	}
}

// loaded tells whether an item has a block.
func loaded(i api.Item) bool {
	return i.Kind == api.Write || i.Kind == api.Move || i.Kind == api.Put
}

// block is 64 bytes, all of them others than those of another seed.
func block(seed int) []byte {
	b := make([]byte, 64)
	for i := range b {
		b[i] = byte(seed + 7*i)
	}
	return b
}

// its is the block that an item comes with: none, if it has none.
func its(i api.Item, seed int) []byte {
	if loaded(i) {
		return block(seed)
	}
	return nil
}

// at is a place.
func at(seg, off, lsn, prev, mount int) api.Pos {
	return api.Pos{Seg: seg, Off: off, LSN: lsn, Prev: prev, Mount: mount}
}

// device is a disk of a geometry, with some room beyond, and with bytes in each
// sector that are no record's and no head's.
func device(t *testing.T, c api.Config) (*vdisk.Disk, *geom.Geom) {
	t.Helper()
	g, e := geom.New(c)
	is(t, "geom.New", e, api.OK)
	d, e := vdisk.New(min(g.Sectors()+beyond, api.MaxSectors))
	is(t, "vdisk.New", e, api.OK)
	for s := range d.Sectors() {
		is(t, "Write", d.Write(s, there(s)), api.OK)
	}
	is(t, "Flush", d.Flush(), api.OK)
	return d, g
}

// there is what stands in a sector at first.
func there(sector int) []byte {
	return block(200 + 3*sector)
}

// act is a sector that was written.
type act struct {
	sector int
	data   string
}

// bench is a writer, what it is made on, and, kept by hand beside it, what it should
// have done.
type bench struct {
	d     *vdisk.Disk
	g     *geom.Geom
	u     *usage.Table
	w     *writer.Writer
	first int // acts of the disk ahead of the writer's

	at     api.Pos
	items  []api.Item
	blocks [][]byte
	uses   []api.Use
	live   []int
	acts   []act
}

// on is a writer at a place of a device, with these uses (all Free, but for the
// place's segment, without), and some sectors live in each.
func on(t *testing.T, c api.Config, p api.Pos, uses ...api.Use) *bench {
	t.Helper()
	d, g := device(t, c)
	if uses == nil {
		uses = make([]api.Use, c.Segs)
		uses[p.Seg].State = api.Open
	}
	b := &bench{d: d, g: g, u: usage.New(g, uses...), at: p, uses: slices.Clone(uses), first: d.Acts()}
	for s := range c.Segs {
		b.u.Add(g.Seg(s), 1+s)
		b.live = append(b.live, 1+s)
	}
	b.w = writer.New(d, g, b.u, p)
	if b.w == nil {
		t.Fatalf("New at %v: got nil", p)
	}
	return b
}

// small is a writer at a place of eight segments of 24 sectors, the first of which
// begins at sector 14.
func small(t *testing.T, p api.Pos) *bench {
	t.Helper()
	return on(t, configs()[0], p)
}

// lay is bytes that should have been written, sector by sector.
func (b *bench) lay(seg, off int, data []byte) {
	for k, part := range slices.Collect(slices.Chunk(data, 64)) {
		b.acts = append(b.acts, act{b.g.Seg(seg) + off + k, string(part)})
	}
}

// lays is a record that should have been written at the place.
func (b *bench) lays(t *testing.T, items []api.Item, blocks [][]byte) {
	t.Helper()
	data, sum, e := record.Encode(api.Record{Mount: b.at.Mount, LSN: b.at.LSN, Prev: b.at.Prev, Items: items, Blocks: blocks})
	is(t, "record.Encode", e, api.OK)
	b.lay(b.at.Seg, b.at.Off, data)
	b.uses[b.at.Seg].Stamp = b.at.LSN
	b.at.Off, b.at.LSN, b.at.Prev = b.at.Off+len(data)/64, b.at.LSN+1, sum
}

// heads is a head that should have been written, of the place's segment.
func (b *bench) heads(t *testing.T) {
	t.Helper()
	data, e := head.Encode(api.Head{Seg: b.at.Seg, Mount: b.at.Mount, LSN: b.at.LSN, Prev: b.at.Prev})
	is(t, "head.Encode", e, api.OK)
	b.lay(b.at.Seg, 0, data)
	b.at.Off = 1
}

// emits is an Emit that should have been done.
func (b *bench) emits(t *testing.T) {
	t.Helper()
	if len(b.items) == 0 {
		return
	}
	if b.at.Off == 0 {
		b.heads(t)
	}
	b.lays(t, b.items, b.blocks)
	b.items, b.blocks = nil, nil
}

// turns is a turn that should have been done.
func (b *bench) turns(t *testing.T, seg int) {
	t.Helper()
	b.uses[seg].State, b.live[seg] = api.Open, 0
	from := b.at.Seg
	b.lays(t, []api.Item{next(seg)}, nil)
	if b.uses[from].State == api.Open {
		b.uses[from].State = api.Sealed
	}
	b.at.Seg = seg
	b.heads(t)
}

// free is the Free segments, rising.
func (b *bench) free() []int {
	var l []int
	for s, u := range b.uses {
		if u.State == api.Free {
			l = append(l, s)
		}
	}
	return l
}

// adds is an Add that should be done: what it should answer.
func (b *bench) adds(t *testing.T, i api.Item, data []byte, spare bool) (int, api.Errno) {
	t.Helper()
	one, kept := 1, 2
	if loaded(i) {
		one = 2
	}
	if spare {
		kept = 0
	}
	// The sectors from the place on up to the last one, which is kept for a Next.
	left := b.g.Config().Len - 1 - max(1, b.at.Off)
	if len(b.items) == 6 || len(b.blocks)+one > left {
		if len(b.items) > 0 {
			left -= 1 + len(b.blocks)
		}
		free := b.free()
		if one > left && len(free) <= kept {
			return 0, api.ErrSpace
		}
		b.emits(t)
		if one > left {
			b.turns(t, free[0])
		}
	}
	b.items = append(b.items, i)
	if !loaded(i) {
		return 0, api.OK
	}
	b.blocks = append(b.blocks, slices.Clone(data))
	return b.g.Seg(b.at.Seg) + max(1, b.at.Off) + len(b.blocks), api.OK
}

// add adds, and fails unless that was answered which should be.
func (b *bench) add(t *testing.T, i api.Item, data []byte, spare bool) int {
	t.Helper()
	at, e := b.w.Add(i, data, spare)
	wantAt, wantE := b.adds(t, i, data, spare)
	is(t, fmt.Sprint("Add of ", i, ": the sector"), at, wantAt)
	is(t, fmt.Sprint("Add of ", i, ": the error"), e, wantE)
	return at
}

// emit emits, and fails unless it is done.
func (b *bench) emit(t *testing.T) {
	t.Helper()
	is(t, "Emit", b.w.Emit(), api.OK)
	b.emits(t)
}

// lives fails unless the writer and its table stand as they should.
func (b *bench) lives(t *testing.T, what string) {
	t.Helper()
	is(t, what+": Pos", b.w.Pos(), b.at)
	is(t, what+": Waiting", b.w.Waiting(), len(b.items))
	same(t, what+": Uses", b.u.Uses(false), b.uses)
	for s, n := range b.live {
		is(t, fmt.Sprint(what, ": Live of ", s), b.u.Live(s), n)
	}
}

// stands fails unless all stands as it should, on the disk and off it.
func (b *bench) stands(t *testing.T, what string) {
	t.Helper()
	b.lives(t, what)
	is(t, what+": Acts", b.d.Acts()-b.first, len(b.acts))
	is(t, what+": Held", b.d.Held(), len(b.acts))
	has(t, what, b.d, b.acts)
	for k, want := range b.blocks {
		got, e := b.w.Read(b.g.Seg(b.at.Seg) + max(1, b.at.Off) + 1 + k)
		is(t, what+": Read of what waits", e, api.OK)
		same(t, what+": Read of what waits", got, want)
	}
}

// has fails unless a disk has what these acts leave, and nothing else.
func has(t *testing.T, what string, d *vdisk.Disk, acts []act) {
	t.Helper()
	want := map[int]string{}
	for _, a := range acts {
		want[a.sector] = a.data
	}
	for s := range d.Sectors() {
		w, ok := want[s]
		if !ok {
			w = string(there(s))
		}
		if got, e := d.Read(s); e != api.OK || string(got) != w {
			t.Errorf("%s: sector %d: got %v, %d, want %v", what, s, got, e, []byte(w))
			return
		}
	}
}

// left is what a disk leaves whose power goes now, with all that it holds whole.
func left(d *vdisk.Disk) *vdisk.Disk {
	picks := make([]int, d.Held())
	for i := range picks {
		picks[i] = 1
	}
	return d.Crash(picks...)
}

// is fails unless a call answered that.
func is[T comparable](t *testing.T, what string, got, want T) {
	t.Helper()
	if got != want {
		t.Errorf("%s: got %v, want %v", what, got, want)
	}
}

// same fails unless two lists are the same: nil and an empty one are.
func same[T comparable](t *testing.T, what string, got, want []T) {
	t.Helper()
	if !slices.Equal(got, want) {
		t.Errorf("%s: got %v, want %v", what, got, want)
	}
}

// goods are numbers that each field of a place of a device may have.
func goods(c api.Config) []api.Pos {
	out := []api.Pos{
		at(0, 0, 1, 0, 1), at(c.Segs-1, c.Len-1, maxNum, maxSum, maxNum), at(1, 2, 3, 4, 5),
		at(c.Segs-1, 0, 1, maxSum, 1), at(0, c.Len-1, maxNum, 0, 1), at(0, 1, 1, 1, maxNum),
	}
	for s := range c.Segs {
		out = append(out, at(s, s%c.Len, 2, 3, 4))
	}
	for off := range c.Len {
		out = append(out, at(2, off, 256, 65536, 1<<24))
	}
	return out
}

// A writer stands at its place, whatever its numbers are, and nothing waits.
func TestP15_1New(t *testing.T) {
	for _, c := range configs() {
		d, g := device(t, c)
		for _, p := range goods(c) {
			u, acts := usage.New(g), d.Acts()
			w := writer.New(d, g, u, p)
			if w == nil {
				t.Fatalf("New at %v: got nil", p)
			}
			is(t, "Pos", w.Pos(), p)
			is(t, "Waiting", w.Waiting(), 0)
			is(t, "Pos once more", w.Pos(), p)
			is(t, "Acts", d.Acts(), acts)
			same(t, "Uses", u.Uses(false), make([]api.Use, c.Segs))
		}
	}
}

// What a place may not have is nil: each number just beyond its bounds, and far.
func TestP15_1NewWrong(t *testing.T) {
	for _, c := range configs() {
		d, g := device(t, c)
		u := usage.New(g)
		wrong := func(p api.Pos) {
			t.Helper()
			if w := writer.New(d, g, u, p); w != nil {
				t.Errorf("New at %v of %v: got a writer", p, c)
			}
		}
		p := at(3, 4, 5, 6, 7)
		for _, n := range append([]int{c.Segs, c.Segs + 1, 2 * c.Segs, 32, 33, 255, 256, 259, 1 << 31, -c.Segs, maxNum, maxSum}, far...) {
			wrong(at(n, p.Off, p.LSN, p.Prev, p.Mount))
		}
		for _, n := range append([]int{c.Len, c.Len + 1, 2 * c.Len, 64, 65, 255, 256, 260, 1 << 31, -c.Len, maxNum, maxSum}, far...) {
			wrong(at(p.Seg, n, p.LSN, p.Prev, p.Mount))
		}
		for _, n := range append([]int{0, 1 << 31, 1<<31 + 1, maxSum}, far...) {
			wrong(at(p.Seg, p.Off, n, p.Prev, p.Mount))
			wrong(at(p.Seg, p.Off, p.LSN, p.Prev, n))
		}
		for _, n := range far {
			wrong(at(p.Seg, p.Off, p.LSN, n, p.Mount))
		}
		wrong(api.Pos{})
	}
}

// A place may be, if it may be that of a region.
func TestP15_1NewAsRegions(t *testing.T) {
	for _, c := range configs() {
		d, g := device(t, c)
		u := usage.New(g)
		for _, n := range append([]int{0, 1, 7, 8, c.Segs - 1, c.Segs, c.Len - 1, c.Len, 255, 256, maxNum, maxNum + 1, maxSum, maxSum + 1}, far...) {
			for _, p := range []api.Pos{at(n, 2, 3, 4, 5), at(1, n, 3, 4, 5), at(1, 2, n, 4, 5), at(1, 2, 3, n, 5), at(1, 2, 3, 4, n), at(n, n, n, n, n)} {
				r := api.Region{Gen: 1, View: 1, Mode: api.Backup, At: p, Base: make([]int, g.Pages()), Over: make([]int, g.Pages()), Segs: make([]api.Use, c.Segs)}
				if p.Seg >= 0 && p.Seg < c.Segs {
					r.Segs[p.Seg].State = api.Open
				}
				is(t, fmt.Sprint("a writer at ", p), writer.New(d, g, u, p) != nil, region.May(g, r))
			}
		}
	}
}

// The table is not asked what the place's segment is used for.
func TestP15_1NewOfEachState(t *testing.T) {
	c := configs()[0]
	d, g := device(t, c)
	for state := api.Free; state <= api.Sealed; state++ {
		for s := range c.Segs {
			uses := make([]api.Use, c.Segs)
			uses[s] = api.Use{State: state, Stamp: 9}
			u := usage.New(g, uses...)
			is(t, "a writer", writer.New(d, g, u, at(s, 0, 1, 0, 1)) != nil, true)
			same(t, "Uses", u.Uses(false), uses)
		}
	}
}

func TestP15_1NewOfNil(t *testing.T) {
	d, g := device(t, configs()[0])
	u, p := usage.New(g), at(0, 0, 1, 0, 1)
	is(t, "of a nil disk", writer.New(nil, g, u, p) == nil, true)
	is(t, "of a nil geometry", writer.New(d, nil, u, p) == nil, true)
	is(t, "of a nil table", writer.New(d, g, nil, p) == nil, true)
	is(t, "of nothing", writer.New(nil, nil, nil, api.Pos{}) == nil, true)
	is(t, "of a geometry without segments", writer.New(d, new(geom.Geom), u, p) == nil, true)
	is(t, "of a disk without power", writer.New(dark(t, configs()[0]), g, u, p) != nil, true)
}

// dark is a disk whose power is off.
func dark(t *testing.T, c api.Config) *vdisk.Disk {
	t.Helper()
	d, _ := device(t, c)
	off(t, d)
	return d
}

// off takes a disk's power.
func off(t *testing.T, d *vdisk.Disk) {
	t.Helper()
	d.Fuse(0)
	is(t, "Flush without power", d.Flush(), api.ErrOff)
}

// The place moves behind each record, not with what waits; its Mount stays.
func TestP15_1Pos(t *testing.T) {
	for _, p := range []api.Pos{at(0, 0, 1, 0, 1), at(3, 1, 7, 99, 5), at(7, 5, 1<<24, maxSum, maxNum)} {
		b := small(t, p)
		now := p
		for n := 1; n <= 3; n++ {
			for k := range n {
				b.add(t, write(k), block(k), false)
				is(t, "Pos with what waits", b.w.Pos(), now)
			}
			b.add(t, mark(n), nil, false)
			is(t, "Pos with what waits", b.w.Pos(), now)
			b.emit(t)
			r := api.Record{Mount: p.Mount, LSN: now.LSN, Prev: now.Prev, Items: append(writes(n), mark(n))}
			for k := range n {
				r.Blocks = append(r.Blocks, block(k))
			}
			_, sum, _ := record.Encode(r)
			now = at(p.Seg, max(1, now.Off)+1+n, now.LSN+1, sum, p.Mount)
			is(t, "Pos behind a record", b.w.Pos(), now)
		}
		b.stands(t, "behind three records")
	}
}

// writes are so many Writes.
func writes(n int) []api.Item {
	var l []api.Item
	for b := range n {
		l = append(l, write(b))
	}
	return l
}

// Waiting counts items, with a block or without, up to six.
func TestP15_1Waiting(t *testing.T) {
	for _, l := range [][]api.Item{
		writes(6), {mark(1), mark(2), mark(3), mark(4), mark(5), mark(6)}, {write(1), trim(1, 2), put(3), drop(3, 4), move(5, 6), mark(7)},
	} {
		b := small(t, at(2, 0, 1, 0, 1))
		for k, i := range l {
			is(t, "ahead of it", b.w.Waiting(), k)
			b.add(t, i, its(i, k), false)
			is(t, "behind it", b.w.Waiting(), k+1)
			b.stands(t, "waiting")
		}
		b.add(t, l[0], its(l[0], 9), false)
		is(t, "behind the seventh", b.w.Waiting(), 1)
		b.emit(t)
		is(t, "behind an Emit", b.w.Waiting(), 0)
	}
}

// Writers on disks and tables of their own have nothing in common.
func TestP15_1Apart(t *testing.T) {
	a, b := small(t, at(1, 0, 1, 0, 1)), small(t, at(2, 3, 4, 5, 6))
	for k := range 20 {
		a.add(t, write(k), block(k), false)
		b.add(t, put(20-k), block(100+k), false)
		if k%5 == 4 {
			b.emit(t)
		}
		a.stands(t, "the one")
		b.stands(t, "the other")
	}
}

// Six Writes wait; the seventh emits them: seven sectors.
func TestP15_2Example(t *testing.T) {
	for _, p := range []api.Pos{at(0, 1, 1, 0, 1), at(5, 4, 9, 8, 7)} {
		b := small(t, p)
		for k := range 6 {
			is(t, "the sector", b.add(t, write(k), block(k), false), 14+24*p.Seg+p.Off+1+k)
		}
		is(t, "Waiting", b.w.Waiting(), 6)
		is(t, "Acts", b.d.Acts(), b.first)
		is(t, "the seventh's sector", b.add(t, write(6), block(6), false), 14+24*p.Seg+p.Off+8)
		is(t, "Waiting", b.w.Waiting(), 1)
		is(t, "Acts", b.d.Acts(), b.first+7)
		is(t, "Pos's Off", b.w.Pos().Off, p.Off+7)
		b.stands(t, "seven Writes")
	}
	b := small(t, at(0, 0, 1, 0, 1))
	for k := range 7 {
		b.add(t, write(k), block(k), false)
	}
	is(t, "Acts with a head", b.d.Acts(), b.first+8)
	b.stands(t, "seven Writes with a head")
}

// Each kind waits, with its block or without, and is written as it was.
func TestP15_2Kinds(t *testing.T) {
	for _, i := range kinds() {
		for _, none := range [][]byte{nil, {}} {
			b := small(t, at(4, 9, 8, 7, 6))
			data, want := none, 0
			if loaded(i) {
				data, want = block(3), 14+4*24+9+1
			}
			is(t, "the sector", b.add(t, i, data, false), want)
			b.stands(t, "waiting")
			b.emit(t)
			b.stands(t, "emitted")
			if loaded(i) {
				got, e := b.d.Read(want)
				is(t, "Read", e, api.OK)
				same(t, "the block", got, block(3))
			}
		}
	}
}

// Each two kinds share a record: a block lies behind those of the items ahead of it.
func TestP15_2KindsTogether(t *testing.T) {
	for _, i := range kinds() {
		for _, j := range kinds() {
			b := small(t, at(6, 0, 8, 7, 6))
			b.add(t, mark(3), nil, false)
			b.add(t, i, its(i, 1), false)
			b.add(t, j, its(j, 2), false)
			got := b.add(t, write(4), block(3), false)
			want := 14 + 6*24 + 2
			for _, x := range []api.Item{i, j} {
				if loaded(x) {
					want++
				}
			}
			is(t, "the last sector", got, want)
			b.emit(t)
			b.lives(t, "emitted")
			got2, e := b.d.Read(want)
			is(t, "Read", e, api.OK)
			same(t, "the last block", got2, block(3))
		}
	}
}

// wrongItems are none that may be added, whatever comes with them.
func wrongItems() []api.Item {
	l := []api.Item{
		{}, {Kind: -1}, {Kind: 8}, {Kind: 257}, {Kind: 1<<32 + 1}, {Kind: math.MinInt}, {Kind: math.MaxInt},
		write(64), write(-1), write(256), put(64), put(-1), move(64, 1), move(-1, 1), move(0, 0), move(0, 4096), move(0, -1),
		trim(0, 0), trim(0, 65), trim(63, 2), trim(-1, 1), trim(64, 0), drop(0, 0), drop(0, 65), drop(63, 2), drop(-1, 1),
		mark(0), mark(-1), mark(1 << 31), {Kind: api.Mark, Block: 1, Value: 1}, {Kind: api.Mark, Count: 1, Value: 1},
		{Kind: api.Write, Count: 1}, {Kind: api.Write, Value: 1}, {Kind: api.Put, Count: 1}, {Kind: api.Put, Value: 1},
		{Kind: api.Move, Count: 1, Value: 1}, {Kind: api.Trim, Count: 1, Value: 1}, {Kind: api.Drop, Count: 1, Value: 1},
		next(32), next(-1), {Kind: api.Next, Block: 1},
	}
	for s := range api.MaxSegs {
		l = append(l, next(s))
	}
	return l
}

// What may not be added is ErrArg, and does nothing, even if it would not fit.
func TestP15_2WrongItems(t *testing.T) {
	for n := range 7 {
		b := small(t, at(1, 15, 2, 3, 4))
		for k := range n {
			b.add(t, write(k), block(k), false)
		}
		for _, i := range wrongItems() {
			for _, data := range [][]byte{nil, {}, block(1)} {
				for _, spare := range []bool{false, true} {
					refused(t, b, i, data, spare, api.ErrArg)
				}
			}
			b.lives(t, "behind a wrong item")
		}
		b.stands(t, "behind wrong items")
	}
}

// refused fails unless an Add is answered with that error.
func refused(t *testing.T, b *bench, i api.Item, data []byte, spare bool, want api.Errno) {
	t.Helper()
	at, e := b.w.Add(i, data, spare)
	is(t, fmt.Sprint("Add of ", i, " with ", len(data), " bytes"), e, want)
	is(t, "the sector beside an error", at, 0)
}

// A block that is none, or one of an item that has none, is ErrArg.
func TestP15_2WrongBlocks(t *testing.T) {
	b := small(t, at(1, 15, 2, 3, 4))
	long := make([]byte, 1<<16)
	for _, i := range kinds() {
		for _, n := range []int{0, 1, 2, 7, 32, 63, 64, 65, 127, 128, 192, 256, 320, 1 << 16} {
			if !loaded(i) && n == 0 || loaded(i) && n == 64 {
				continue
			}
			refused(t, b, i, long[:n], false, api.ErrArg)
			refused(t, b, i, long[:n], true, api.ErrArg)
			b.lives(t, "behind a wrong block")
		}
	}
	refused(t, b, write(1), nil, false, api.ErrArg)
	b.stands(t, "behind wrong blocks")
}

// Without power all that may be added is ErrOff, and all else ErrArg still.
func TestP15_2Off(t *testing.T) {
	for n := range 7 {
		b := small(t, at(1, 15, 2, 3, 4))
		for k := range n {
			b.add(t, write(k), block(k), false)
		}
		off(t, b.d)
		acts := b.d.Acts()
		for _, i := range kinds() {
			refused(t, b, i, its(i, 1), false, api.ErrOff)
			refused(t, b, i, its(i, 1), true, api.ErrOff)
			refused(t, b, i, make([]byte, 63), false, api.ErrArg)
		}
		for _, i := range wrongItems() {
			refused(t, b, i, nil, false, api.ErrArg)
		}
		is(t, "Acts", b.d.Acts(), acts)
	}
}

// ErrOff is told ahead of ErrSpace.
func TestP15_2OffAheadOfSpace(t *testing.T) {
	b := full(t, at(1, 23, 2, 3, 4))
	refused(t, b, mark(1), nil, false, api.ErrSpace)
	off(t, b.d)
	refused(t, b, mark(1), nil, false, api.ErrOff)
	refused(t, b, mark(1), nil, true, api.ErrOff)
}

// used is a writer of eight segments at a place, with these segments Free, the
// place's Open, and the others Sealed.
func used(t *testing.T, p api.Pos, free ...int) *bench {
	t.Helper()
	uses := make([]api.Use, 8)
	for s := range uses {
		uses[s] = api.Use{State: api.Sealed, Stamp: 100 + s}
		if slices.Contains(free, s) {
			uses[s].State = api.Free
		}
	}
	uses[p.Seg].State = api.Open
	return on(t, configs()[0], p, uses...)
}

// full is one without a Free segment.
func full(t *testing.T, p api.Pos) *bench {
	t.Helper()
	return used(t, p)
}

// lists are so many items, of which so many have a block, in two orders.
func lists(n, blocks int) [][]api.Item {
	l := writes(blocks)
	for k := range n - blocks {
		l = append(l, mark(1+k))
	}
	back := slices.Clone(l)
	slices.Reverse(back)
	return [][]api.Item{l, back}
}

// Whatever waits, at each Off: an item with a block and one without wait beside it,
// behind it, or in the next segment, as far as there is room.
func TestP15_2Fits(t *testing.T) {
	for _, c := range []api.Config{configs()[0], configs()[4]} {
		for o := range c.Len {
			for n := range 7 {
				for blocks := range n + 1 {
					for _, l := range lists(n, blocks) {
						for _, i := range []api.Item{mark(9), trim(3, 4), put(5)} {
							b := on(t, c, at(2, o, 3, 4, 5))
							for k, x := range l {
								b.add(t, x, its(x, k), false)
							}
							b.add(t, i, its(i, 7), false)
							b.lives(t, fmt.Sprint("Off ", o, ", ", n, " items, ", blocks, " blocks"))
							is(t, "Acts", b.d.Acts()-b.first, len(b.acts))
						}
					}
				}
			}
		}
	}
}

// A record that would end just ahead of the segment's last sector fits, and one that
// would end in it does not.
func TestP15_2LastSector(t *testing.T) {
	for _, c := range configs() {
		for size := 2; size <= 7; size++ {
			just := c.Len - 1 - size // the Off of a record of so many sectors that ends just ahead of the last one
			b := on(t, c, at(3, just, 1, 0, 1))
			for k := range size - 1 {
				b.add(t, write(k), block(k), false)
			}
			is(t, "all wait", b.w.Waiting(), size-1)
			is(t, "Acts", b.d.Acts(), b.first)
			b.emit(t)
			is(t, "the last sector is left", b.w.Pos().Off, c.Len-1)
			b.stands(t, "just ahead of the last sector")

			b = on(t, c, at(3, just+1, 1, 0, 1))
			for k := range size - 1 {
				is(t, "nothing was written", b.d.Acts(), b.first)
				b.add(t, write(k), block(k), false)
			}
			is(t, "one waits", b.w.Waiting(), 1)
			is(t, "in the next segment", b.w.Pos().Seg, 0)
			b.stands(t, "just in the last sector")
		}
		b := on(t, c, at(3, c.Len-2, 1, 0, 1))
		b.add(t, mark(1), nil, false)
		is(t, "a Mark just ahead of the last sector waits", b.w.Pos(), at(3, c.Len-2, 1, 0, 1))
		b.stands(t, "a Mark just ahead of the last sector")
		b = on(t, c, at(3, c.Len-1, 1, 0, 1))
		b.add(t, mark(1), nil, false)
		is(t, "a Mark in the last sector turns", b.w.Pos().Seg, 0)
		b.stands(t, "a Mark in the last sector")
	}
}

// A seventh item emits six, of whatever sectors, though there is room enough.
func TestP15_2Seventh(t *testing.T) {
	for blocks := range 7 {
		for _, l := range lists(6, blocks) {
			for _, i := range []api.Item{mark(9), move(5, 6)} {
				b := small(t, at(2, 1, 3, 4, 5))
				for k, x := range l {
					b.add(t, x, its(x, k), false)
				}
				is(t, "six wait", b.w.Waiting(), 6)
				is(t, "nothing was written", b.d.Acts(), b.first)
				b.add(t, i, its(i, 7), false)
				is(t, "one waits", b.w.Waiting(), 1)
				is(t, "a record was written", b.d.Acts(), b.first+1+blocks)
				is(t, "Pos's Off", b.w.Pos().Off, 2+blocks)
				is(t, "Pos's LSN", b.w.Pos().LSN, 4)
				b.stands(t, "the seventh")
			}
		}
	}
}

// What waits is emitted alone, if the item has room behind it then, though it has
// none beside it: no segment is asked for.
func TestP15_2EmittedAlone(t *testing.T) {
	for _, spare := range []bool{false, true} {
		b := full(t, at(2, 16, 3, 4, 5))
		for k := range 6 {
			b.add(t, mark(k+1), nil, spare)
		}
		b.add(t, write(1), block(1), spare)
		is(t, "Pos", b.w.Pos().Off, 17)
		is(t, "Waiting", b.w.Waiting(), 1)
		b.stands(t, "emitted alone")
	}
}

// What waits is emitted, and then the writer turns: by hand.
func TestP15_2EmittedAndTurned(t *testing.T) {
	b := small(t, at(2, 21, 3, 4, 5))
	b.w.Add(mark(7), nil, false)
	b.w.Add(write(1), block(1), false)
	is(t, "two wait", b.w.Waiting(), 2)
	sector, e := b.w.Add(put(2), block(2), false)
	is(t, "the sector", sector, 14+2)
	is(t, "the error", e, api.OK)
	one, sum1, _ := record.Encode(api.Record{Mount: 5, LSN: 3, Prev: 4, Items: []api.Item{mark(7), write(1)}, Blocks: [][]byte{block(1)}})
	two, sum2, _ := record.Encode(api.Record{Mount: 5, LSN: 4, Prev: sum1, Items: []api.Item{next(0)}})
	top, _ := head.Encode(api.Head{Seg: 0, Mount: 5, LSN: 5, Prev: sum2})
	has(t, "turned", b.d, []act{
		{14 + 48 + 21, string(one[:64])}, {14 + 48 + 22, string(one[64:])}, {14 + 48 + 23, string(two)}, {14, string(top)},
	})
	is(t, "Acts", b.d.Acts(), b.first+4)
	is(t, "Pos", b.w.Pos(), at(0, 1, 5, sum2, 5))
	is(t, "Waiting", b.w.Waiting(), 1)
	is(t, "the old State", b.u.State(2), api.Sealed)
	is(t, "the old Stamp", b.u.Stamp(2), 4)
	is(t, "the new State", b.u.State(0), api.Open)
	is(t, "the new Stamp", b.u.Stamp(0), 0)
	is(t, "Live of the old one", b.u.Live(2), 3)
	is(t, "Live of the new one", b.u.Live(0), 0)
}

// The writer turns alone, if nothing waits: a Next, and a head.
func TestP15_2TurnedAlone(t *testing.T) {
	for _, o := range []int{22, 23} {
		b := small(t, at(7, o, 3, 4, 5))
		is(t, "the sector", b.add(t, write(1), block(1), false), 14+2)
		is(t, "Acts", b.d.Acts(), b.first+2)
		is(t, "the Stamp", b.u.Stamp(7), 3)
		is(t, "Pos's LSN", b.w.Pos().LSN, 4)
		b.stands(t, "turned alone")
		b.emit(t)
		b.stands(t, "emitted there")
	}
}

// The next segment is the first Free one, whichever these are.
func TestP15_2NextSegment(t *testing.T) {
	for set := range 256 {
		var free []int
		for s := range 8 {
			if set>>s&1 == 1 && s != 3 {
				free = append(free, s)
			}
		}
		for _, spare := range []bool{false, true} {
			b := used(t, at(3, 22, 3, 4, 5), free...)
			b.add(t, mark(1), nil, false)
			b.add(t, write(1), block(1), spare)
			b.stands(t, fmt.Sprint("Free ", free))
			if len(free) > 2 || spare && len(free) > 0 {
				is(t, "Seg", b.w.Pos().Seg, free[0])
				is(t, "Free", b.u.Free(), len(free)-1)
			} else {
				is(t, "Seg", b.w.Pos().Seg, 3)
				is(t, "Free", b.u.Free(), len(free))
			}
		}
	}
}

// Without a segment an Add that needs one is ErrSpace, and nothing is done: neither a
// sector nor an item nor the place nor a segment.
func TestP15_2Space(t *testing.T) {
	for free := range 3 {
		b := used(t, at(3, 21, 3, 4, 5), []int{1, 5}[:free]...)
		for k, i := range []api.Item{mark(1), write(1), trim(1, 1), trim(2, 1), trim(3, 1), trim(4, 1)} {
			b.add(t, i, its(i, k), false)
			if k == 0 {
				continue
			}
			for range 3 {
				refused(t, b, write(2), block(2), false, api.ErrSpace)
				b.stands(t, "ErrSpace")
			}
			if free == 0 {
				refused(t, b, write(2), block(2), true, api.ErrSpace)
				b.stands(t, "ErrSpace with spare")
			}
		}
		refused(t, b, mark(2), nil, false, api.ErrSpace)
		b.stands(t, "ErrSpace for want of the last sector")
		b.emit(t)
		is(t, "the last sector is left", b.w.Pos().Off, 23)
		refused(t, b, mark(3), nil, false, api.ErrSpace)
		refused(t, b, put(3), block(3), false, api.ErrSpace)
		b.stands(t, "ErrSpace with nothing")
	}
}

// Without a segment what fits waits, and what has room behind what waits emits it.
func TestP15_2SpaceEnough(t *testing.T) {
	for free := range 3 {
		b := used(t, at(3, 20, 3, 4, 5), []int{1, 5}[:free]...)
		for k, i := range []api.Item{mark(1), write(1), trim(1, 1), trim(2, 1), trim(3, 1), trim(4, 1)} {
			b.add(t, i, its(i, k), k%2 == 0)
		}
		is(t, "what fits waits", b.w.Waiting(), 6)
		refused(t, b, put(2), block(2), false, api.ErrSpace)
		b.stands(t, "ErrSpace with six")
		b.add(t, mark(2), nil, false)
		is(t, "a Mark fits behind them", b.w.Waiting(), 1)
		is(t, "Pos's Off", b.w.Pos().Off, 22)
		b.stands(t, "emitted without a segment")
	}
}

// The segments that are kept for the cleaner are taken with spare alone, one by one.
func TestP15_2Spare(t *testing.T) {
	for free := range 3 {
		b := used(t, at(3, 23, 3, 4, 5), []int{1, 5}[:free]...)
		for k := range free {
			refused(t, b, put(k), block(k), false, api.ErrSpace)
			b.add(t, put(k), block(k), true)
			is(t, "a spare one", b.w.Pos().Seg, []int{1, 5}[k])
			b.add(t, put(9), block(9), false)
			is(t, "what fits needs none", b.w.Waiting(), 2)
			b.stands(t, "a spare one")
			for b.emit(t); b.w.Pos().Off < 23; b.emit(t) {
				b.add(t, mark(3), nil, false)
			}
			b.stands(t, "a spare one that is full")
		}
		refused(t, b, put(2), block(2), false, api.ErrSpace)
		refused(t, b, put(2), block(2), true, api.ErrSpace)
		b.stands(t, "no spare one is left")
	}
}

// Behind ErrSpace it goes on, once a segment is Free.
func TestP15_2SpaceMade(t *testing.T) {
	b := full(t, at(3, 21, 3, 4, 5))
	b.add(t, write(1), block(1), false)
	refused(t, b, write(2), block(2), false, api.ErrSpace)
	for _, s := range []int{6, 4, 0} {
		b.u.Add(b.g.Seg(s), -b.u.Live(s))
		same(t, "Release", b.u.Release(), []int{s})
		b.live[s], b.uses[s].State = 0, api.Free
	}
	is(t, "the sector", b.add(t, write(2), block(2), false), 14+2)
	is(t, "Seg", b.w.Pos().Seg, 0)
	b.stands(t, "room was made")
}

// Off 0 is a place where each record fits.
func TestP15_2OffNought(t *testing.T) {
	for _, c := range configs() {
		for n := range 7 {
			for blocks := range n + 1 {
				b := on(t, c, at(2, 0, 3, 4, 5))
				for k, x := range lists(n, blocks)[0] {
					b.add(t, x, its(x, k), false)
				}
				is(t, "Acts", b.d.Acts(), b.first)
				want := b.g.Seg(2) + 2 + blocks
				if n == 6 {
					want++
				}
				is(t, "the sector", b.add(t, put(1), block(9), false), want)
				is(t, "Seg", b.w.Pos().Seg, 2)
				b.emit(t)
				b.lives(t, "Off 0")
			}
		}
	}
}

// downed is an item that was added, its block, and the sector that was told.
type downed struct {
	item   api.Item
	data   []byte
	sector int
}

// Items of all kinds go through all segments, and are found again by a Chain, in
// order, with their blocks in the sectors that were told.
func TestP15_2ThroughSegments(t *testing.T) {
	for n, c := range configs() {
		r := rule(n)
		p := at(r.pick(c.Segs), 0, 1+r.pick(9), r.pick(1000), 1+r.pick(9))
		b := on(t, c, p)
		var l []downed
		for e := api.OK; e == api.OK; {
			i := kinds()[r.pick(len(kinds()))]
			if i.Kind == api.Mark {
				i.Value = len(l) + 1
			}
			data := its(i, len(l))
			var sector int
			sector, e = b.w.Add(i, data, len(l)%2 == 0)
			want, wantE := b.adds(t, i, data, len(l)%2 == 0)
			is(t, "the sector", sector, want)
			is(t, "the error", e, wantE)
			if e == api.OK {
				l = append(l, downed{i, data, sector})
			}
			if r.pick(12) == 0 {
				b.emit(t)
			}
		}
		b.emit(t)
		b.stands(t, "all segments")
		is(t, "Free", b.u.Free() <= 2, true)
		found(t, b, p, l)
	}
}

// found fails unless a Chain finds these items from a place on, and the disk their
// blocks in their sectors.
func found(t *testing.T, b *bench, p api.Pos, l []downed) {
	t.Helper()
	x := chain.New(b.d, b.g, p)
	k, segs := 0, 1
	for q, r := range x.Records() {
		is(t, "Mount", r.Mount, p.Mount)
		blocks := r.Blocks
		for _, i := range r.Items {
			if i.Kind == api.Next {
				is(t, "a Next is alone", len(r.Items), 1)
				segs++
				continue
			}
			if k == len(l) {
				t.Fatalf("more items than were added: %v", i)
			}
			is(t, "the item", i, l[k].item)
			if loaded(i) {
				same(t, "the block", blocks[0], l[k].data)
				is(t, "its sector", b.g.Seg(q.Seg)+q.Off+1+len(r.Blocks)-len(blocks), l[k].sector)
				blocks = blocks[1:]
			}
			k++
		}
	}
	is(t, "all items", k, len(l))
	is(t, "Err", x.Err(), api.OK)
	is(t, "End", x.End(), b.w.Pos())
	is(t, "segments", segs, b.g.Config().Segs-b.u.Free())
	for _, one := range l {
		if loaded(one.item) {
			got, e := b.w.Read(one.sector)
			is(t, "Read", e, api.OK)
			same(t, "Read", got, one.data)
		}
	}
}

// rule picks numbers, always the same ones.
type rule uint32

func (r *rule) pick(below int) int {
	*r = *r*1664525 + 1013904223
	return int(*r>>8) % below
}

// What is handed in is a copy, and stays as it is.
func TestP15_2HandedInTurned(t *testing.T) {
	b := small(t, at(1, 0, 2, 3, 4))
	for k := range 6 {
		room := append(block(k), 91, 92, 93)
		data := room[:64]
		b.add(t, write(k), data, false)
		same(t, "what was handed in", room, append(block(k), 91, 92, 93))
		clear(room)
		b.stands(t, "turned")
	}
	data := block(9)
	b.add(t, put(1), data, false)
	clear(data)
	b.emit(t)
	b.stands(t, "emitted")
	data = block(10)
	b.add(t, put(1), data, false)
	b.emit(t)
	clear(data)
	b.stands(t, "turned behind an Emit")
}

// One block that is handed in again and again, with other bytes.
func TestP15_2OneBlock(t *testing.T) {
	b := small(t, at(1, 1, 2, 3, 4))
	data := make([]byte, 64)
	for k := range 15 {
		copy(data, block(k))
		b.add(t, write(k), data, false)
	}
	b.stands(t, "one block")
}

// The numbers of a record end at MaxNum: what would need more is ErrArg, and does
// nothing.
func TestP15_2GreatestLSN(t *testing.T) {
	b := small(t, at(1, 5, maxNum-1, 3, 4))
	b.add(t, write(1), block(1), false)
	b.emit(t)
	b.add(t, mark(1), nil, false)
	b.emit(t)
	is(t, "LSN", b.w.Pos().LSN, maxNum+1)
	b.stands(t, "the last record")
	for k := range 6 {
		b.add(t, write(k), block(k), false)
	}
	is(t, "Emit", b.w.Emit(), api.ErrArg)
	b.stands(t, "no LSN is left")
	refused(t, b, write(1), block(1), false, api.ErrArg)
	refused(t, b, mark(1), nil, true, api.ErrArg)
	b.stands(t, "still none")
}

// A turn needs an LSN for its Next and one for the head behind it, and one more for
// what waits.
func TestP15_2GreatestLSNTurned(t *testing.T) {
	for wait := range 2 {
		for lsn := maxNum - 3; lsn <= maxNum; lsn++ {
			b := small(t, at(1, 22, lsn, 3, 4))
			for range wait {
				b.add(t, mark(1), nil, false)
			}
			if lsn+wait+1 <= maxNum {
				b.add(t, write(1), block(1), false)
				is(t, "turned", b.w.Pos().LSN, lsn+wait+1)
				b.stands(t, "the LSNs suffice")
				continue
			}
			refused(t, b, write(1), block(1), false, api.ErrArg)
			refused(t, b, write(1), block(1), true, api.ErrArg)
			b.stands(t, "the LSNs do not suffice")
			is(t, "Emit", b.w.Emit(), api.OK)
		}
	}
	b := full(t, at(1, 23, maxNum, 3, 4))
	refused(t, b, write(1), block(1), false, api.ErrSpace)
	refused(t, b, write(1), block(1), true, api.ErrSpace)
	b.stands(t, "ErrSpace is asked first")
	b = used(t, at(1, 23, maxNum, 3, 4), 5, 6)
	refused(t, b, write(1), block(1), false, api.ErrSpace)
	refused(t, b, write(1), block(1), true, api.ErrArg)
	b.stands(t, "but with spare there is room")
}

// Numbers at their greatest otherwise: all of it goes on.
func TestP15_2GreatestNumbers(t *testing.T) {
	b := on(t, configs()[3], at(31, 63, maxNum-2, maxSum, maxNum))
	b.add(t, move(63, 4095), block(1), false)
	b.emit(t)
	b.stands(t, "the greatest numbers")
	is(t, "LSN", b.w.Pos().LSN, maxNum)
}

// The uses of other segments, and how much is live, stay in a turn, and so does the
// new segment's Stamp, till a record stands there.
func TestP15_2UsesStay(t *testing.T) {
	b := used(t, at(3, 22, 300, 4, 5), 0, 2, 5, 6)
	b.add(t, mark(1), nil, false)
	is(t, "the Stamp with what waits", b.u.Stamp(3), 103)
	b.add(t, mark(2), nil, false)
	is(t, "the Stamp behind what waits", b.u.Stamp(3), 103)
	b.add(t, write(1), block(1), false)
	is(t, "the Stamp behind a turn", b.u.Stamp(3), 301)
	is(t, "Sealed", b.u.State(3), api.Sealed)
	is(t, "the new Stamp", b.u.Stamp(0), 100)
	is(t, "Open", b.u.State(0), api.Open)
	is(t, "Live", b.u.Live(0), 0)
	b.stands(t, "a turn")
	b.emit(t)
	is(t, "the new Stamp behind an Emit", b.u.Stamp(0), 302)
	b.stands(t, "an Emit")
}

// A segment that was not Open is not Sealed; the table tells which one is next.
func TestP15_2NotOpen(t *testing.T) {
	uses := make([]api.Use, 8)
	uses[0].State = api.Open
	b := on(t, configs()[0], at(5, 23, 9, 8, 7), uses...)
	b.add(t, mark(1), nil, false)
	is(t, "State of the old one", b.u.State(5), api.Free)
	is(t, "Stamp of the old one", b.u.Stamp(5), 9)
	is(t, "State of the first one", b.u.State(0), api.Open)
	is(t, "Seg", b.w.Pos().Seg, 1)
	b.stands(t, "not Open")
}

// With Off 0 the head is written ahead of the first record, and of no other one.
func TestP15_3Head(t *testing.T) {
	for s := range 8 {
		p := at(s, 0, 9+s, 800+s, 7)
		b := small(t, p)
		b.add(t, put(1), block(1), false)
		b.add(t, mark(2), nil, false)
		b.emit(t)
		one, sum, _ := record.Encode(api.Record{Mount: 7, LSN: 9 + s, Prev: 800 + s, Items: []api.Item{put(1), mark(2)}, Blocks: [][]byte{block(1)}})
		top, _ := head.Encode(api.Head{Seg: s, Mount: 7, LSN: 9 + s, Prev: 800 + s})
		first := 14 + 24*s
		acts := []act{{first, string(top)}, {first + 1, string(one[:64])}, {first + 2, string(one[64:])}}
		has(t, "a head and a record", b.d, acts)
		is(t, "Pos", b.w.Pos(), at(s, 3, 10+s, sum, 7))
		is(t, "Stamp", b.u.Stamp(s), 9+s)
		is(t, "State", b.u.State(s), api.Open)
		b.add(t, mark(3), nil, false)
		b.emit(t)
		is(t, "Acts of the second one", b.d.Acts(), b.first+4)
		b.stands(t, "a second one")
	}
}

// With Off 1 and above there is none.
func TestP15_3NoHead(t *testing.T) {
	for o := 1; o < 24; o++ {
		b := small(t, at(3, o, 9, 800, 7))
		b.add(t, mark(2), nil, false)
		b.emit(t)
		b.stands(t, "a Mark")
		if o < 23 {
			is(t, "Acts", b.d.Acts(), b.first+1)
		}
	}
}

// Nothing that waits is nothing to emit, nor a head.
func TestP15_3EmitNothing(t *testing.T) {
	for o := range 24 {
		b := small(t, at(3, o, 9, 800, 7))
		b.emit(t)
		b.emit(t)
		is(t, "Acts", b.d.Acts(), b.first)
		b.stands(t, "nothing")
		b.add(t, mark(2), nil, false)
		b.emit(t)
		b.emit(t)
		b.stands(t, "nothing more")
	}
}

// Records of all sizes, at each Off where they fit: their bytes, the place behind
// them, and the Stamp.
func TestP15_3EachSize(t *testing.T) {
	for n := 1; n <= 6; n++ {
		for blocks := range n + 1 {
			for o := range 24 - 1 - blocks {
				b := small(t, at(6, o, 1000+o, 5, 3))
				if max(1, o)+1+blocks > 23 {
					continue
				}
				var data [][]byte
				l := lists(n, blocks)[1]
				for k, x := range l {
					b.add(t, x, its(x, k), false)
					if loaded(x) {
						data = append(data, block(k))
					}
				}
				b.emit(t)
				all, sum, _ := record.Encode(api.Record{Mount: 3, LSN: 1000 + o, Prev: 5, Items: l, Blocks: data})
				got := []byte{}
				for k := range 1 + blocks {
					x, e := b.d.Read(14 + 6*24 + max(1, o) + k)
					is(t, "Read", e, api.OK)
					got = append(got, x...)
				}
				same(t, "the record", got, all)
				is(t, "Pos", b.w.Pos(), at(6, max(1, o)+1+blocks, 1001+o, sum, 3))
				is(t, "Stamp", b.u.Stamp(6), 1000+o)
				b.stands(t, "a record")
			}
		}
	}
}

// Without power an Emit is ErrOff, and asks for no act, whether something waits or not.
func TestP15_3Off(t *testing.T) {
	for n := range 3 {
		b := small(t, at(3, 0, 9, 800, 7))
		for k := range n {
			b.add(t, write(k), block(k), false)
		}
		off(t, b.d)
		acts := b.d.Acts()
		is(t, "Emit", b.w.Emit(), api.ErrOff)
		is(t, "Emit", b.w.Emit(), api.ErrOff)
		is(t, "Acts", b.d.Acts(), acts)
		has(t, "without power", left(b.d), nil)
	}
}

// each does something on a bench, once with power, and then with as many acts done as
// there are and fewer: what was written then is a beginning of what is written with
// power, in its order, and the act behind it is the last that is asked for. It
// answers how many there are.
func each(t *testing.T, what string, made func() *bench, do func(*bench) api.Errno) int {
	t.Helper()
	whole := made()
	do(whole)
	for n := range len(whole.acts) + 1 {
		b := made()
		b.d.Fuse(n)
		e := do(b)
		if n == len(whole.acts) {
			is(t, what+": with power enough", e, api.OK)
			is(t, what+": the power", b.d.Off(), false)
			continue
		}
		is(t, what+": the error", e, api.ErrOff)
		is(t, what+": Acts", b.d.Acts()-b.first, n+1)
		is(t, what+": Held", b.d.Held(), n)
		has(t, fmt.Sprint(what, ": ", n, " acts"), left(b.d), whole.acts[:n])
		is(t, what+": Emit", b.w.Emit(), api.ErrOff)
		is(t, what+": Acts behind it", b.d.Acts()-b.first, n+1)
	}
	return len(whole.acts)
}

// The power goes at each act of an Emit: the head is first, then the record.
func TestP15_3OffInTheMidst(t *testing.T) {
	for _, o := range []int{0, 1, 9} {
		for n := 1; n <= 6; n++ {
			made := func() *bench {
				b := small(t, at(3, o, 9, 800, 7))
				for k := range n {
					b.add(t, write(k), block(k), false)
				}
				return b
			}
			do := func(b *bench) api.Errno {
				b.emits(t)
				return b.w.Emit()
			}
			what := fmt.Sprint("Emit at Off ", o, " of ", n)
			is(t, what+": acts", each(t, what, made, do), 1+n+max(0, 1-o))
		}
	}
}

// The power goes at each act of an Add that emits, turns, or both: what waits, the
// Next, the head.
func TestP15_2OffInTheMidst(t *testing.T) {
	marks := lists(6, 0)[0]
	for _, x := range []struct {
		off   int
		items []api.Item
		acts  int
	}{
		{0, writes(6), 8}, {1, writes(6), 7}, {14, writes(6), 7}, {0, marks, 2}, {1, marks, 1},
		{15, writes(6), 9}, {19, writes(2), 0}, {20, writes(2), 5}, {21, writes(1), 4}, {20, writes(1), 0},
		{22, nil, 2}, {23, nil, 2}, {22, marks[:1], 3}, {22, marks[:5], 3}, {22, marks, 3},
	} {
		made := func() *bench {
			b := small(t, at(3, x.off, 9, 800, 7))
			for k, i := range x.items {
				b.add(t, i, its(i, k), false)
			}
			return b
		}
		do := func(b *bench) api.Errno {
			sector, e := b.w.Add(put(5), block(50), false)
			is(t, "a sector beside an error", e != api.OK && sector != 0, false)
			b.adds(t, put(5), block(50), false)
			return e
		}
		what := fmt.Sprint("Add at Off ", x.off, " behind ", len(x.items))
		is(t, what+": acts", each(t, what, made, do), x.acts)
	}
}

// cut is a writer like another one, on a disk of fewer sectors.
func cut(t *testing.T, p api.Pos, sectors int) *bench {
	t.Helper()
	b := small(t, p)
	d, e := vdisk.New(sectors)
	is(t, "vdisk.New", e, api.OK)
	for s := range sectors {
		is(t, "Write", d.Write(s, there(s)), api.OK)
	}
	is(t, "Flush", d.Flush(), api.OK)
	b.d, b.first = d, d.Acts()
	b.w = writer.New(d, b.g, b.u, p)
	return b
}

// On a disk that ends ahead of the place each error of a Write is told, and the rest
// is not done: what waits still does, the place stays, but for the head.
func TestP15_3SmallDisk(t *testing.T) {
	whole := small(t, at(3, 0, 9, 800, 7))
	for k := range 6 {
		whole.add(t, write(k), block(k), false)
	}
	whole.emits(t)
	for n := range len(whole.acts) + 1 {
		b := cut(t, at(3, 0, 9, 800, 7), 14+72+n)
		for k := range 6 {
			b.add(t, write(k), block(k), false)
		}
		if n == len(whole.acts) {
			b.emit(t)
			b.stands(t, "a disk that is large enough")
			continue
		}
		b.at.Off = min(1, n)
		for range 3 {
			is(t, "Emit", b.w.Emit(), api.ErrArg)
			has(t, fmt.Sprint("a disk with room for ", n), b.d, whole.acts[:n])
			b.lives(t, fmt.Sprint("a disk with room for ", n))
		}
	}
}

// A Write that fails in the midst of an Add ends it there: what was done stays done,
// and the item does not wait.
func TestP15_2SmallDisk(t *testing.T) {
	// The disk ends within what waits, in segment 3: all of it still waits.
	b := cut(t, at(3, 20, 9, 800, 7), 14+72+21)
	b.add(t, write(1), block(1), false)
	b.add(t, write(2), block(2), false)
	refused(t, b, write(3), block(3), false, api.ErrArg)
	is(t, "Waiting", b.w.Waiting(), 2)
	is(t, "Pos", b.w.Pos(), at(3, 20, 9, 800, 7))
	is(t, "Stamp", b.u.Stamp(3), 0)
	is(t, "State", b.u.State(3), api.Open)
	is(t, "no segment was taken", b.u.Free(), 7)
	// It ends behind it: that is emitted, but the Next is not written.
	b = cut(t, at(3, 20, 9, 800, 7), 14+72+23)
	b.add(t, write(1), block(1), false)
	b.add(t, write(2), block(2), false)
	refused(t, b, write(3), block(3), false, api.ErrArg)
	is(t, "Waiting", b.w.Waiting(), 0)
	is(t, "Pos's Off", b.w.Pos().Off, 23)
	is(t, "Pos's LSN", b.w.Pos().LSN, 10)
	is(t, "Stamp", b.u.Stamp(3), 9)
	is(t, "State", b.u.State(3), api.Open)
	// It ends ahead of the next segment: the Next is written, but no head.
	uses := make([]api.Use, 8)
	for s := range 4 {
		uses[s].State = api.Sealed
	}
	uses[3].State = api.Open
	b = cut(t, at(3, 23, 9, 800, 7), 14+96)
	b.u = usage.New(b.g, uses...)
	b.w = writer.New(b.d, b.g, b.u, b.at)
	refused(t, b, write(3), block(3), false, api.ErrArg)
	one, _, _ := record.Encode(api.Record{Mount: 7, LSN: 9, Prev: 800, Items: []api.Item{next(4)}})
	has(t, "a Next", b.d, []act{{14 + 72 + 23, string(one)}})
	is(t, "Waiting", b.w.Waiting(), 0)
	is(t, "Pos", b.w.Pos(), at(3, 23, 9, 800, 7))
	is(t, "Stamp", b.u.Stamp(3), 9)
	is(t, "State", b.u.State(3), api.Sealed)
	is(t, "State of the next one", b.u.State(4), api.Open)
}

// A table of another geometry, with segments that there are not here: each call ends.
func TestP15_2OtherTable(t *testing.T) {
	d, g := device(t, configs()[0])
	_, other := device(t, configs()[2])
	uses := make([]api.Use, 32)
	for s := range 8 {
		uses[s].State = api.Sealed
	}
	w := writer.New(d, g, usage.New(other, uses...), at(3, 23, 9, 800, 7))
	for range 30 {
		sector, e := w.Add(mark(1), nil, true)
		is(t, "the sector", sector, 0)
		is(t, "the error", e == api.ErrArg || e == api.ErrSpace, true)
		is(t, "Pos", w.Pos(), at(3, 23, 9, 800, 7))
	}
}

// Read is the block that waits, or what the disk has: of each sector, whatever waits.
func TestP15_3Read(t *testing.T) {
	for _, p := range []api.Pos{at(0, 0, 1, 0, 1), at(0, 1, 1, 0, 1), at(5, 3, 9, 8, 7), at(7, 14, 9, 8, 7)} {
		b := small(t, p)
		for k := range 8 {
			reads(t, b)
			i := kinds()[(3*k+7)%14]
			b.add(t, i, its(i, k), false)
		}
		reads(t, b)
		b.emit(t)
		reads(t, b)
	}
}

// reads fails unless Read tells of each sector what waits for it, or else what was
// written there last, or stood there.
func reads(t *testing.T, b *bench) {
	t.Helper()
	want := map[int]string{}
	for _, a := range b.acts {
		want[a.sector] = a.data
	}
	for k, data := range b.blocks {
		want[b.g.Seg(b.at.Seg)+max(1, b.at.Off)+1+k] = string(data)
	}
	for s := range b.d.Sectors() {
		w, ok := want[s]
		if !ok {
			w = string(there(s))
		}
		got, e := b.w.Read(s)
		is(t, "Read", e, api.OK)
		same(t, fmt.Sprint("Read of ", s), got, []byte(w))
	}
}

// Of no sector it is ErrArg, whatever waits.
func TestP15_3ReadNowhere(t *testing.T) {
	b := small(t, at(0, 0, 1, 0, 1))
	for n := range 7 {
		for _, s := range append([]int{b.d.Sectors(), b.d.Sectors() + 1, 4095, 4096, 1<<31 - 1, 1 << 31, 1<<32 + 16, 1<<32 + 20}, far...) {
			if s >= 0 && s < b.d.Sectors() {
				continue
			}
			got, e := b.w.Read(s)
			is(t, fmt.Sprint("Read of ", s, " with ", n), e, api.ErrArg)
			is(t, "bytes beside an error", len(got), 0)
		}
		b.add(t, put(n), block(n), false)
	}
}

// A fault is told where a sector is read, not where a block waits for it.
func TestP15_3ReadFault(t *testing.T) {
	for faulty := range 30 {
		b := small(t, at(0, 4, 1, 0, 1))
		for k := range 3 {
			b.add(t, put(k), block(k), false)
		}
		b.d.Fault(faulty, true)
		for s := range 30 {
			got, e := b.w.Read(s)
			switch {
			case s >= 19 && s <= 21:
				is(t, "Read of what waits", e, api.OK)
				same(t, "Read of what waits", got, block(s-19))
			case s == faulty:
				is(t, "Read of a fault", e, api.ErrRead)
				is(t, "bytes beside an error", len(got), 0)
			default:
				is(t, "Read of the disk", e, api.OK)
				same(t, "Read of the disk", got, there(s))
			}
		}
		b.emit(t)
		got, e := b.w.Read(20)
		if faulty == 20 {
			is(t, "Read of what was emitted", e, api.ErrRead)
			is(t, "bytes beside an error", len(got), 0)
			b.d.Fault(faulty, false)
			got, e = b.w.Read(20)
		}
		is(t, "Read of what was emitted", e, api.OK)
		same(t, "Read of what was emitted", got, block(1))
	}
}

// Without power the disk is ErrOff, and of no sector ErrArg; what waits is told still.
func TestP15_3ReadOff(t *testing.T) {
	b := small(t, at(0, 4, 1, 0, 1))
	b.add(t, put(1), block(1), false)
	b.emit(t)
	off(t, b.d)
	for _, s := range []int{0, 14, 18, 19, 20, 205} {
		got, e := b.w.Read(s)
		is(t, "Read", e, api.ErrOff)
		is(t, "bytes beside an error", len(got), 0)
	}
	_, e := b.w.Read(-1)
	is(t, "Read of none", e, api.ErrArg)
	b = small(t, at(0, 4, 1, 0, 1))
	b.add(t, put(1), block(1), false)
	off(t, b.d)
	got, e := b.w.Read(19)
	is(t, "Read of what waits", e, api.OK)
	same(t, "Read of what waits", got, block(1))
}

// What Read told is a copy: turned, it turns nothing.
func TestP15_3ReadTurned(t *testing.T) {
	b := small(t, at(0, 0, 1, 0, 1))
	for k := range 6 {
		b.add(t, put(k), block(k), false)
	}
	for k := range 6 {
		got, _ := b.w.Read(16 + k)
		got = append(got, 1, 2, 3)
		clear(got)
		again, _ := b.w.Read(16 + k)
		same(t, "Read again", again, block(k))
		b.stands(t, "turned")
	}
	got, _ := b.w.Read(17)
	b.emit(t)
	same(t, "what was told", got, block(1))
	clear(got)
	b.stands(t, "emitted")
	got, _ = b.w.Read(17)
	clear(got)
	b.stands(t, "turned behind an Emit")
}

// What was told stays, whatever comes behind it.
func TestP15_3ReadStays(t *testing.T) {
	b := small(t, at(0, 0, 1, 0, 1))
	var told [][]byte
	for k := range 30 {
		s := b.add(t, put(k), block(k), false)
		got, _ := b.w.Read(s)
		told = append(told, got)
		if k%4 == 3 {
			b.emit(t)
		}
	}
	for k, got := range told {
		same(t, "what was told", got, block(k))
	}
}

// The writer reads nothing on its own: faults everywhere turn nothing else.
func TestP15_3FaultsElsewhere(t *testing.T) {
	b := small(t, at(0, 0, 1, 0, 1))
	for s := range b.d.Sectors() {
		b.d.Fault(s, true)
	}
	for k := range 60 {
		b.add(t, write(k), block(k), false)
	}
	b.emit(t)
	for s := range b.d.Sectors() {
		b.d.Fault(s, false)
	}
	b.stands(t, "faults")
}

// A nil Writer, and one that was not made, do nothing.
func TestP15_3Nil(t *testing.T) {
	var w *writer.Writer
	for _, i := range append(kinds(), wrongItems()...) {
		for _, data := range [][]byte{nil, block(1)} {
			sector, e := w.Add(i, data, false)
			is(t, "Add", e, api.ErrArg)
			is(t, "the sector", sector, 0)
			_, e = w.Add(i, data, true)
			is(t, "Add with spare", e, api.ErrArg)
		}
	}
	is(t, "Emit", w.Emit(), api.ErrArg)
	for _, s := range []int{-1, 0, 1, 2, 16, 4096, math.MinInt, math.MaxInt} {
		got, e := w.Read(s)
		is(t, "Read", e, api.ErrArg)
		is(t, "bytes", len(got), 0)
	}
	is(t, "Pos", w.Pos(), api.Pos{})
	is(t, "Waiting", w.Waiting(), 0)
}

func TestP15_3Unmade(t *testing.T) {
	w := new(writer.Writer)
	for _, i := range append(kinds(), wrongItems()...) {
		_, e := w.Add(i, its(i, 1), true)
		is(t, "Add is refused", e != api.OK, true)
	}
	is(t, "Emit is refused", w.Emit() != api.OK, true)
	for _, s := range []int{-1, 0, 1, 2, math.MinInt, math.MaxInt} {
		_, e := w.Read(s)
		is(t, "Read is refused", e != api.OK, true)
	}
	is(t, "Waiting", w.Waiting(), 0)
}

// Adds, Emits and Releases as a rule picks them, beside what is kept by hand.
func TestP15_3AgainstByHand(t *testing.T) {
	for n := range 24 {
		r := rule(1000 + n)
		c := configs()[n%len(configs())]
		b := on(t, c, at(r.pick(c.Segs), r.pick(2)*r.pick(c.Len), 1+r.pick(1000), r.pick(maxSum), 1+r.pick(maxNum)))
		turns, space := 0, 0
		for k := range 900 {
			was := b.w.Pos().Seg
			switch x := r.pick(40); {
			case x == 0:
				b.emit(t)
			case x == 1 && r.pick(4) == 0:
				b.release()
			case x == 2:
				refused(t, b, wrongItems()[r.pick(len(wrongItems()))], nil, true, api.ErrArg)
			default:
				i := kinds()[r.pick(14)]
				free := len(b.free())
				b.add(t, i, its(i, k), r.pick(6) == 0)
				if free <= 2 && b.w.Pos().Seg == was {
					space++
				}
			}
			if b.w.Pos().Seg != was {
				turns++
			}
			b.lives(t, "in the midst")
			if k%100 == 99 {
				b.stands(t, "a hundred steps")
				reads(t, b)
			}
			if t.Failed() {
				t.Fatalf("rule %d, step %d", n, k)
			}
		}
		is(t, "some turns", turns >= 5, true)
	}
}

// release frees all that is Sealed.
func (b *bench) release() {
	for s := range b.live {
		if b.uses[s].State == api.Sealed {
			b.u.Add(b.g.Seg(s), -b.u.Live(s))
			b.live[s], b.uses[s].State = 0, api.Free
		}
	}
	b.u.Release()
}

// The log round and round, with room made as it goes on: what was emitted last is
// found again from the last turn on.
func TestP15_2RoundAndRound(t *testing.T) {
	for _, c := range configs()[:2] {
		b := on(t, c, at(3, 0, 1, 0, 1))
		var l []downed
		var from api.Pos
		turns := 0
		for k := range 40 * c.Len {
			i := kinds()[(5*k+3)%14]
			was := b.w.Pos()
			s := b.add(t, i, its(i, k), false)
			if b.w.Pos().Seg != was.Seg {
				b.release()
				from, l = b.w.Pos(), nil
				turns++
			}
			l = append(l, downed{i, its(i, k), s})
			if t.Failed() {
				t.Fatalf("step %d", k)
			}
		}
		b.emit(t)
		b.stands(t, "round and round")
		k := 0
		for _, r := range chain.New(b.d, b.g, from).Records() {
			for _, i := range r.Items {
				is(t, "the item", i, l[k].item)
				k++
			}
		}
		is(t, "all items", k, len(l))
		is(t, "round twice at least", turns >= 2*c.Segs, true)
	}
}

// A head that stands there, and records of an elder log, are written over.
func TestP15_3OverOld(t *testing.T) {
	b := small(t, at(2, 0, 5, 6, 7))
	old := bytes.Repeat([]byte{1}, 64)
	for s := 14 + 48; s < 14+72; s++ {
		is(t, "Write", b.d.Write(s, old), api.OK)
		b.lay(2, s-14-48, old)
	}
	for k := range 9 {
		b.add(t, write(k), block(k), false)
	}
	b.emit(t)
	b.stands(t, "over what stood there")
	is(t, "its last sector", b.acts[len(b.acts)-1].data, string(block(8)))
}
