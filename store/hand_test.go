package store_test

import (
	"fmt"
	"slices"
	"testing"

	"keelson/api"
	"keelson/geom"
	"keelson/head"
	"keelson/page"
	"keelson/record"
	"keelson/region"
	"keelson/store"
	"keelson/super"
	"keelson/vdisk"
)

const (
	maxNum = 1<<31 - 1
	maxSum = 1<<32 - 1
)

// beyond is how many sectors the disks here have behind the last segment: nothing is
// written there.
const beyond = 5

// The calls of a store.
const (
	write = iota
	trim
	mark
	put
	drop
	sync
	read
	look
	move
	check
	raise
	calls
)

// step is a call, with its numbers and its bytes.
type step struct {
	call int
	a, b int
	data []byte
}

// answer is what a call answers; bytes and segments as texts, so that it has ==.
type answer struct {
	e    api.Errno
	data string
	segs string
}

func writes(b, seed int) step    { return step{call: write, a: b, data: block(seed)} }
func trims(b, n int) step        { return step{call: trim, a: b, b: n} }
func marks(epoch int) step       { return step{call: mark, a: epoch} }
func puts(b, seed int) step      { return step{call: put, a: b, data: block(seed)} }
func drops(b, n int) step        { return step{call: drop, a: b, b: n} }
func syncs() step                { return step{call: sync} }
func reads(b int) step           { return step{call: read, a: b} }
func looks(b int) step           { return step{call: look, a: b} }
func moves(b, old int) step      { return step{call: move, a: b, b: old} }
func checks() step               { return step{call: check} }
func raises(view, mode int) step { return step{call: raise, a: view, b: mode} }
func (x step) String() string    { return fmt.Sprint(names()[x.call], x.a, " ", x.b, " of ", len(x.data)) }
func told(e api.Errno) answer    { return answer{e: e} }
func bytesOf(b []byte) answer    { return answer{data: string(b)} }
func segments(l ...int) answer   { return answer{segs: listed(l)} }
func zeros() []byte              { return make([]byte, 64) }
func position(n int) api.Pos     { return api.Pos{LSN: 1, Mount: n} }
func names() [calls]string {
	return [...]string{"Write ", "Trim ", "Mark ", "Put ", "Drop ", "Sync ", "Read ", "Look ", "Move ", "Checkpoint ", "Raise "}
}
func item(kind, b, n int) api.Item { return api.Item{Kind: kind, Block: b, Count: n} }

// listed is a list as a text: nil and an empty one are alike.
func listed(l []int) string {
	if len(l) == 0 {
		return ""
	}
	return fmt.Sprint(l)
}

func (a answer) String() string {
	return fmt.Sprint("error ", int(a.e), ", bytes ", []byte(a.data), ", segments ", a.segs)
}

// on calls a store.
func (x step) on(s *store.Store) answer {
	var out answer
	var b []byte
	var l []int
	switch x.call {
	case write:
		out.e = s.Write(x.a, x.data)
	case trim:
		out.e = s.Trim(x.a, x.b)
	case mark:
		out.e = s.Mark(x.a)
	case put:
		out.e = s.Put(x.a, x.data)
	case drop:
		out.e = s.Drop(x.a, x.b)
	case sync:
		out.e = s.Sync()
	case read:
		b, out.e = s.Read(x.a)
	case look:
		b, out.e = s.Look(x.a)
	case move:
		out.e = s.Move(x.a, x.b)
	case check:
		l, out.e = s.Checkpoint()
	case raise:
		out.e = s.Raise(x.a, x.b)
	}
	out.data, out.segs = string(b), listed(l)
	return out
}

// block is 64 bytes, all of them others than those of another seed, and none like the
// first one.
func block(seed int) []byte {
	b := make([]byte, 64)
	for i := range b {
		b[i] = byte(seed + 7*i)
	}
	b[1], b[2] = byte(seed>>8), byte(seed>>16)
	return b
}

// there is what stands in a sector at first: nothing that was written by a store.
func there(sector int) string {
	return string(block(200 + 3*sector))
}

// flushed is the sector of an act that is none: of a Flush.
const flushed = -1

// act is a sector that is written, or a Flush.
type act struct {
	sector int
	data   string
}

// hand is a store, and, kept by hand beside it, how it should stand.
type hand struct {
	t *testing.T
	c api.Config
	d *vdisk.Disk
	g *geom.Geom
	s *store.Store

	mode, view, epoch, seq, done, gen int

	refs  [2][]int    // by table, and block
	bytes [2][][]byte // likewise: those that lie there; nil, if untouched
	dirty [2][]bool   // by table, and page
	slots [2][]int
	slot  int

	uses   []api.Use
	at     api.Pos
	items  []api.Item // that wait
	blocks [][]byte

	acts   []act // all of them
	faults map[int]bool
	off    bool
	marked [][]byte // as the last Mark, or what is a Primary's, left it
}

// The tables.
const (
	base = iota
	over
)

// configs are some with each number at its least and its greatest, and between; that
// of the chapter on geometry first.
func configs() []api.Config {
	return []api.Config{
		{Blocks: 20, Segs: 8, Len: 24}, {Blocks: 1, Segs: 8, Len: 64}, {Blocks: 64, Segs: 32, Len: 24},
		{Blocks: 64, Segs: 32, Len: 64}, {Blocks: 15, Segs: 9, Len: 25}, {Blocks: 31, Segs: 17, Len: 40},
		{Blocks: 16, Segs: 16, Len: 33}, {Blocks: 45, Segs: 10, Len: 24},
	}
}

// device is a disk that a geometry has room on, with bytes in each sector that are
// nothing's.
func device(t *testing.T, c api.Config) (*vdisk.Disk, *geom.Geom) {
	t.Helper()
	g, e := geom.New(c)
	is(t, "geom.New", e, api.OK)
	d, e := vdisk.New(g.Sectors() + beyond)
	is(t, "vdisk.New", e, api.OK)
	for s := range d.Sectors() {
		is(t, "Write", d.Write(s, []byte(there(s))), api.OK)
	}
	is(t, "Flush", d.Flush(), api.OK)
	return d, g
}

// made is a store of a device that is new.
func made(t *testing.T, c api.Config, id int) *hand {
	t.Helper()
	d, g := device(t, c)
	s, e := store.New(d, c, id)
	if s == nil || e != api.OK {
		t.Fatalf("New of %v: got %v, %d", c, s, e)
	}
	h := &hand{t: t, c: c, d: d, g: g, s: s, mode: api.Backup, view: 1, gen: 1, at: position(1), faults: map[int]bool{}}
	h.refs[base], h.refs[over] = make([]int, c.Blocks), slices.Repeat([]int{-1}, c.Blocks)
	h.bytes[base], h.bytes[over] = slices.Repeat([][]byte{zeros()}, c.Blocks), make([][]byte, c.Blocks)
	for table := range 2 {
		h.dirty[table], h.slots[table] = make([]bool, g.Pages()), make([]int, g.Pages())
	}
	h.uses = make([]api.Use, c.Segs)
	h.uses[0].State = api.Open
	for s := range d.Sectors() {
		h.acts = append(h.acts, act{s, there(s)})
	}
	h.acts = append(h.acts, act{sector: flushed})
	h.acts = append(h.acts, formats(t, g, id, 1)...)
	h.remember()
	return h
}

// small is a store of eight segments of 24 sectors, the first of which begins at
// sector 14.
func small(t *testing.T) *hand {
	t.Helper()
	return made(t, configs()[0], 7)
}

// primary is a store that is a Primary, of view 2.
func primary(t *testing.T, c api.Config) *hand {
	t.Helper()
	h := made(t, c, 7)
	h.do(raises(2, api.Primary))
	return h
}

// formats are the acts of a Format.
func formats(t *testing.T, g *geom.Geom, id, mount int) []act {
	t.Helper()
	var l []act
	blocks := g.Config().Blocks
	for _, ref := range []int{0, -1} {
		for k := range g.Pages() {
			b, e := page.Encode(slices.Repeat([]int{ref}, min(15, blocks-15*k))...)
			is(t, "page.Encode", e, api.OK)
			l = append(l, act{g.Page(ref < 0, k, 0), string(b)})
		}
	}
	r := api.Region{Gen: 1, View: 1, Mode: api.Backup, At: position(mount), Base: make([]int, g.Pages()), Over: make([]int, g.Pages()), Segs: make([]api.Use, g.Config().Segs)}
	r.Segs[0].State = api.Open
	b, e := region.Encode(g, r)
	is(t, "region.Encode", e, api.OK)
	l = append(l, sectors(g.Region(0), b)...)
	l = append(l, sectors(g.Region(1), make([]byte, len(b)))...)
	b, e = super.Encode(api.Super{Config: g.Config(), ID: id, Mount: mount})
	is(t, "super.Encode", e, api.OK)
	return append(l, act{(mount + 1) % 2, string(zeros())}, act{mount % 2, string(b)}, act{sector: flushed})
}

// sectors are the acts that write bytes, from a sector on.
func sectors(at int, b []byte) []act {
	var l []act
	for part := range slices.Chunk(b, 64) {
		l = append(l, act{at, string(part)})
		at++
	}
	return l
}

// remember keeps what stands now.
func (h *hand) remember() {
	h.marked = slices.Clone(h.bytes[base])
}

// lay is bytes that should be written, sector by sector.
func (h *hand) lay(at int, b []byte) {
	h.acts = append(h.acts, sectors(at, b)...)
}

// flush is a Flush that should be done.
func (h *hand) flush() {
	h.acts = append(h.acts, act{sector: flushed})
}

// record is a record that should be written at the place.
func (h *hand) record(items []api.Item, blocks [][]byte) {
	h.t.Helper()
	b, sum, e := record.Encode(api.Record{Mount: h.at.Mount, LSN: h.at.LSN, Prev: h.at.Prev, Items: items, Blocks: blocks})
	is(h.t, "record.Encode", e, api.OK)
	h.lay(h.g.Seg(h.at.Seg)+h.at.Off, b)
	h.uses[h.at.Seg].Stamp = h.at.LSN
	h.at.Off, h.at.LSN, h.at.Prev = h.at.Off+len(b)/64, h.at.LSN+1, sum
}

// heads is a head that should be written, of the place's segment.
func (h *hand) heads() {
	h.t.Helper()
	b, e := head.Encode(api.Head{Seg: h.at.Seg, Mount: h.at.Mount, LSN: h.at.LSN, Prev: h.at.Prev})
	is(h.t, "head.Encode", e, api.OK)
	h.lay(h.g.Seg(h.at.Seg), b)
	h.at.Off = 1
}

// emits is an Emit that should be done.
func (h *hand) emits() {
	h.t.Helper()
	if len(h.items) == 0 {
		return
	}
	if h.at.Off == 0 {
		h.heads()
	}
	h.record(h.items, h.blocks)
	h.items, h.blocks = nil, nil
}

// free are the Free segments, rising.
func (h *hand) free() []int {
	var l []int
	for s, u := range h.uses {
		if u.State == api.Free {
			l = append(l, s)
		}
	}
	return l
}

// live is how many refs lie in a segment.
func (h *hand) live(s int) int {
	n := 0
	for _, refs := range h.refs {
		for _, ref := range refs {
			if ref >= h.g.Seg(s) && ref < h.g.Seg(s)+h.c.Len {
				n++
			}
		}
	}
	return n
}

// loaded tells whether an item has a block.
func loaded(i api.Item) bool {
	return i.Kind == api.Write || i.Kind == api.Move || i.Kind == api.Put
}

// first is the sector where the first block of what waits will lie.
func (h *hand) first() int {
	return h.g.Seg(h.at.Seg) + max(1, h.at.Off) + 1
}

// adds is an item that should wait: where its block will lie.
func (h *hand) adds(i api.Item, data []byte, spare bool) (int, api.Errno) {
	h.t.Helper()
	one, kept := 1, 2
	if loaded(i) {
		one = 2
	}
	if spare {
		kept = 0
	}
	// The sectors from the place on up to the last one, which is kept for a Next.
	left := h.c.Len - 1 - max(1, h.at.Off)
	if len(h.items) == 6 || len(h.blocks)+one > left {
		if len(h.items) > 0 {
			left -= 1 + len(h.blocks)
		}
		free := h.free()
		if one > left && len(free) <= kept {
			return 0, api.ErrSpace
		}
		h.emits()
		if one > left {
			from := h.at.Seg
			h.record([]api.Item{{Kind: api.Next, Value: free[0]}}, nil)
			h.uses[from].State, h.uses[free[0]].State = api.Sealed, api.Open
			h.at.Seg = free[0]
			h.heads()
		}
	}
	h.items = append(h.items, i)
	if !loaded(i) {
		return 0, api.OK
	}
	h.blocks = append(h.blocks, slices.Clone(data))
	return h.first() + len(h.blocks) - 1, api.OK
}

// set gives a block of a table that ref, and these bytes.
func (h *hand) set(table, b, ref int, data []byte) {
	if h.refs[table][b] != ref {
		h.dirty[table][b/15] = true
	}
	h.refs[table][b], h.bytes[table][b] = ref, data
}

// modes is the mode of a call; 0 of one that both have.
func (x step) modes() int {
	switch x.call {
	case write, trim, mark, raise:
		return api.Backup
	case put, drop, sync:
		return api.Primary
	}
	return 0
}

// right tells whether a call's numbers and bytes are right.
func (h *hand) right(x step) bool {
	n := h.c.Blocks
	block := x.a >= 0 && x.a < n
	switch x.call {
	case write, put:
		return block && len(x.data) == 64
	case trim, drop:
		return block && x.b >= 1 && x.b <= n && x.a+x.b <= n
	case mark:
		return x.a == h.epoch+1
	case read, look:
		return block
	case move:
		return block && x.b >= 1
	case raise:
		return x.a >= 1 && x.a <= maxNum && (x.b == api.Backup || x.b == api.Primary)
	}
	return true
}

// refuses is the error that is told ahead of what a call does.
func (h *hand) refuses(x step) api.Errno {
	switch {
	case x.modes() != 0 && x.modes() != h.mode:
		return api.ErrMode
	case !h.right(x):
		return api.ErrArg
	case x.call == raise && x.a <= h.view:
		return api.ErrView
	case h.off:
		return api.ErrOff
	}
	return api.OK
}

// should is what a call should answer, and does it by hand.
func (h *hand) should(x step) answer {
	h.t.Helper()
	if e := h.refuses(x); e != api.OK {
		return told(e)
	}
	table := over
	if h.mode == api.Primary {
		table = base
	}
	switch x.call {
	case write, put:
		return told(h.lays(table, x))
	case trim, drop:
		return told(h.clears(table, x))
	case mark:
		return told(h.ends(x))
	case sync:
		h.emits()
		h.flush()
	case read:
		return h.reads(base, x.a)
	case look:
		if h.refs[over][x.a] != -1 {
			return h.reads(over, x.a)
		}
		return h.reads(base, x.a)
	case move:
		return told(h.moves(x))
	case check:
		return h.checks()
	case raise:
		for b := range h.c.Blocks {
			h.set(over, b, -1, nil)
		}
		h.seq, h.view, h.mode = h.done, x.a, x.b
		h.checks()
	}
	return answer{}
}

// lays is a Write or a Put.
func (h *hand) lays(table int, x step) api.Errno {
	h.t.Helper()
	kind := [...]int{base: api.Put, over: api.Write}[table]
	at, e := h.adds(item(kind, x.a, 0), x.data, false)
	if e != api.OK {
		return e
	}
	h.set(table, x.a, at, slices.Clone(x.data))
	h.numbers()
	return api.OK
}

// clears is a Trim or a Drop.
func (h *hand) clears(table int, x step) api.Errno {
	h.t.Helper()
	kind := [...]int{base: api.Drop, over: api.Trim}[table]
	if _, e := h.adds(item(kind, x.a, x.b), nil, false); e != api.OK {
		return e
	}
	for b := x.a; b < x.a+x.b; b++ {
		h.set(table, b, 0, zeros())
	}
	h.numbers()
	return api.OK
}

// numbers counts what a Backup took.
func (h *hand) numbers() {
	if h.mode == api.Backup {
		h.seq++
	}
}

// ends is a Mark.
func (h *hand) ends(x step) api.Errno {
	h.t.Helper()
	if _, e := h.adds(api.Item{Kind: api.Mark, Value: x.a}, nil, false); e != api.OK {
		return e
	}
	h.emits()
	h.flush()
	h.epoch, h.seq, h.done = x.a, h.seq+1, h.seq+1
	for b, ref := range h.refs[over] {
		if ref != -1 {
			h.set(base, b, ref, h.bytes[over][b])
			h.set(over, b, -1, nil)
		}
	}
	h.remember()
	return api.OK
}

// waits tells whether a block waits for that sector.
func (h *hand) waits(at int) bool {
	return at >= h.first() && at < h.first()+len(h.blocks)
}

// reads is the bytes of a block, by a table.
func (h *hand) reads(table, b int) answer {
	if ref := h.refs[table][b]; ref > 0 && h.faults[ref] && !h.waits(ref) {
		return told(api.ErrRead)
	}
	return bytesOf(h.bytes[table][b])
}

// moves is a Move.
func (h *hand) moves(x step) api.Errno {
	h.t.Helper()
	table := base
	if h.refs[base][x.a] != x.b {
		table = over
	}
	data := h.bytes[table][x.a]
	switch {
	case h.refs[table][x.a] != x.b:
		return api.ErrNone
	case h.faults[x.b] && !h.waits(x.b):
		return api.ErrRead
	}
	at, e := h.adds(api.Item{Kind: api.Move, Block: x.a, Value: x.b}, data, true)
	if e == api.OK {
		h.set(table, x.a, at, data)
	}
	return e
}

// checks is a Checkpoint.
func (h *hand) checks() answer {
	h.t.Helper()
	h.emits()
	for table, dirty := range h.dirty {
		for k := range dirty {
			if !dirty[k] {
				continue
			}
			h.slots[table][k] = 1 - h.slots[table][k]
			b, e := page.Encode(h.page(table, k)...)
			is(h.t, "page.Encode", e, api.OK)
			h.lay(h.g.Page(table == over, k, h.slots[table][k]), b)
			dirty[k] = false
		}
	}
	h.flush()
	var freed []int
	for s := range h.uses {
		if h.uses[s].State == api.Sealed && h.live(s) == 0 {
			h.uses[s].State = api.Free
			freed = append(freed, s)
		}
	}
	h.gen, h.slot = h.gen+1, 1-h.slot
	r := api.Region{Gen: h.gen, View: h.view, Mode: h.mode, Epoch: h.epoch, Seq: h.seq, Done: h.done, At: h.at, Base: h.slots[base], Over: h.slots[over], Segs: h.uses}
	b, e := region.Encode(h.g, r)
	is(h.t, "region.Encode", e, api.OK)
	h.lay(h.g.Region(h.slot), b)
	h.flush()
	return segments(freed...)
}

// page is the refs of a page.
func (h *hand) page(table, k int) []int {
	return h.refs[table][15*k : min(15*k+15, h.c.Blocks)]
}

// do calls the store, and fails unless it answers what it should.
func (h *hand) do(l ...step) {
	h.t.Helper()
	for _, x := range l {
		h.answers(x)
	}
}

// answers calls the store, and fails unless it answers what it should, which is told.
func (h *hand) answers(x step) answer {
	h.t.Helper()
	want := h.should(x)
	is(h.t, x.String(), x.on(h.s), want)
	if h.mode == api.Primary {
		h.remember()
	}
	return want
}

// gives calls the store, and fails unless it answers just that, and by hand too.
func (h *hand) gives(x step, want answer) {
	h.t.Helper()
	is(h.t, x.String()+", by hand", h.answers(x), want)
}

// refused calls the store, and fails unless it is refused so.
func (h *hand) refused(x step, want api.Errno) {
	h.t.Helper()
	h.gives(x, told(want))
}

// fault gives a sector a fault, or takes it away.
func (h *hand) fault(at int, on bool) {
	h.t.Helper()
	is(h.t, "Fault", h.d.Fault(at, on), api.OK)
	h.faults[at] = on
}

// dark takes the power.
func (h *hand) dark() {
	h.t.Helper()
	h.d.Fuse(0)
	is(h.t, "Flush without power", h.d.Flush(), api.ErrOff)
	h.off = true
	h.acts = append(h.acts, act{sector: flushed})
}

// status is how the store should stand.
func (h *hand) status() api.Status {
	live, pending := 0, 0
	for b := range h.c.Blocks {
		for table := range h.refs {
			if h.refs[table][b] > 0 {
				live++
			}
		}
		if h.refs[over][b] != -1 {
			pending++
		}
	}
	return api.Status{
		Mode: h.mode, View: h.view, Epoch: h.epoch, Seq: h.seq, Done: h.done, Mount: h.at.Mount, Gen: h.gen,
		Free: len(h.free()), Live: live, Pending: pending,
	}
}

// tells fails unless the store tells of itself what it should.
func (h *hand) tells(what string) {
	h.t.Helper()
	is(h.t, what+": Status", h.s.Status(), h.status())
	is(h.t, what+": Pos", h.s.Pos(), h.at)
	same(h.t, what+": Uses", h.s.Table().Uses(false), h.uses)
	for s := range h.uses {
		is(h.t, fmt.Sprint(what, ": Live of ", s), h.s.Table().Live(s), h.live(s))
	}
	for table := range h.refs {
		var dirty []int
		for k := range h.dirty[table] {
			same(h.t, fmt.Sprint(what, ": refs of page ", k, " of ", table), h.s.Image().Page(table == over, k), h.page(table, k))
			if h.dirty[table][k] {
				dirty = append(dirty, k)
			}
		}
		same(h.t, fmt.Sprint(what, ": dirty pages of ", table), slices.Collect(h.s.Image().Dirty(table == over)), dirty)
	}
	is(h.t, what+": Acts", h.d.Acts(), len(h.acts))
	if !h.off {
		is(h.t, what+": Held", h.d.Held(), h.held())
	}
}

// shows fails unless each block reads as it should.
func (h *hand) shows(what string) {
	h.t.Helper()
	for b := range h.c.Blocks {
		h.do(reads(b), looks(b))
		if len(h.faults) == 0 && !h.off {
			is(h.t, fmt.Sprint(what, ": what was marked of ", b), reads(b).on(h.s), bytesOf(h.marked[b]))
		}
	}
}

// stands fails unless all stands as it should, on the disk and off it.
func (h *hand) stands(what string) {
	h.t.Helper()
	h.tells(what)
	h.shows(what)
	if !h.off {
		has(h.t, what, h.d, h.acts)
	}
}

// held is how many acts are behind the last Flush.
func (h *hand) held() int {
	return len(h.acts) - safe(h.acts)
}

// safe is how many acts there are up to the last Flush.
func safe(acts []act) int {
	n := len(acts)
	for n > 0 && acts[n-1].sector != flushed {
		n--
	}
	return n
}

// has fails unless a disk has what these acts leave, which wrote each of its sectors.
func has(t *testing.T, what string, d *vdisk.Disk, acts []act) {
	t.Helper()
	want := make([]string, d.Sectors())
	for _, a := range acts {
		if a.sector != flushed {
			want[a.sector] = a.data
		}
	}
	left := d.Crash(ones(d.Held())...) // the same bytes, and faults that may be taken away
	for s := range want {
		left.Fault(s, false)
		if got, e := left.Read(s); e != api.OK || string(got) != want[s] {
			t.Errorf("%s: sector %d: got %v, %d, want %v", what, s, got, e, []byte(want[s]))
			return
		}
	}
}

// ones are so many picks of a crash that leaves all that is held.
func ones(n int) []int {
	return slices.Repeat([]int{1}, n)
}

// inOrder fails unless what is held was written in the order in which it should be: a
// crash that leaves the first so many of it leaves these acts.
func (h *hand) inOrder(what string) {
	h.t.Helper()
	from := safe(h.acts)
	for n := range h.held() + 1 {
		has(h.t, fmt.Sprint(what, ", the first ", n), h.d.Crash(ones(n)...), h.acts[:from+n])
	}
}

// cut fails unless a call whose power goes at any of its acts is ErrOff, and has done
// just what it should till then; and unless it is OK with power for all of them. It
// tells how many acts there are.
func cut(t *testing.T, made func() *hand, x step) int {
	t.Helper()
	whole := made()
	first := len(whole.acts)
	is(t, x.String(), whole.answers(x).e, api.OK)
	acts := whole.acts[first:]
	for n := range acts {
		h := made()
		h.d.Fuse(n)
		is(t, fmt.Sprint(x, " cut at ", n), x.on(h.s), told(api.ErrOff))
		is(t, "Off", h.d.Off(), true)
		is(t, "Acts", h.d.Acts(), first+n+1)
		done := whole.acts[:first+n]
		from := safe(done)
		has(t, fmt.Sprint(x, " cut at ", n, ", nothing held"), h.d.Crash(), done[:from])
		has(t, fmt.Sprint(x, " cut at ", n, ", all of it"), h.d.Crash(ones(n+first-from)...), done)
	}
	h := made()
	h.d.Fuse(len(acts))
	h.do(x)
	is(t, "Off", h.d.Off(), false)
	h.stands("behind " + x.String())
	return len(acts)
}

// is fails unless a call answered that.
func is[T comparable](t *testing.T, what string, got, want T) {
	t.Helper()
	if got != want {
		t.Errorf("%s: got %v, want %v", what, got, want)
	}
}

// same fails unless two lists are the same: nil and an empty one are.
func same[T comparable](t *testing.T, what string, got, want []T) {
	t.Helper()
	if !slices.Equal(got, want) {
		t.Errorf("%s: got %v, want %v", what, got, want)
	}
}

// rule picks numbers, always the same ones.
type rule uint32

func (r *rule) pick(below int) int {
	*r = *r*1664525 + 1013904223
	return int(*r>>8) % below
}
