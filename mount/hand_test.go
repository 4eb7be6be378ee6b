package mount_test

import (
	"fmt"
	"slices"
	"strings"
	"testing"

	"keelson/api"
	"keelson/geom"
	"keelson/head"
	"keelson/page"
	"keelson/record"
	"keelson/region"
	"keelson/store"
	"keelson/super"
	"keelson/vdisk"
)

const (
	maxNum = 1<<31 - 1
	maxSum = 1<<32 - 1
)

// beyond is how many sectors most disks here have behind the last segment: nothing is
// written there.
const beyond = 5

// The calls of a store that change it.
const (
	write = iota
	trim
	mark
	put
	drop
	sync
	move
	check
	raise
)

// step is a call, with its numbers and its bytes.
type step struct {
	call int
	a, b int
	data []byte
}

func writes(b, seed int) step    { return step{call: write, a: b, data: block(seed)} }
func trims(b, n int) step        { return step{call: trim, a: b, b: n} }
func marks(epoch int) step       { return step{call: mark, a: epoch} }
func puts(b, seed int) step      { return step{call: put, a: b, data: block(seed)} }
func drops(b, n int) step        { return step{call: drop, a: b, b: n} }
func syncs() step                { return step{call: sync} }
func moves(b, old int) step      { return step{call: move, a: b, b: old} }
func checks() step               { return step{call: check} }
func raises(view, mode int) step { return step{call: raise, a: view, b: mode} }
func zeros() []byte              { return make([]byte, 64) }

func (x step) String() string {
	return fmt.Sprint([]string{"Write ", "Trim ", "Mark ", "Put ", "Drop ", "Sync ", "Move ", "Checkpoint ", "Raise "}[x.call], x.a, " ", x.b)
}

// on calls a store.
func (x step) on(s *store.Store) api.Errno {
	var e api.Errno
	switch x.call {
	case write:
		e = s.Write(x.a, x.data)
	case trim:
		e = s.Trim(x.a, x.b)
	case mark:
		e = s.Mark(x.a)
	case put:
		e = s.Put(x.a, x.data)
	case drop:
		e = s.Drop(x.a, x.b)
	case sync:
		e = s.Sync()
	case move:
		e = s.Move(x.a, x.b)
	case check:
		_, e = s.Checkpoint()
	case raise:
		e = s.Raise(x.a, x.b)
	}
	return e
}

// block is 64 bytes, all of them others than those of another seed, and none like the
// first one.
func block(seed int) []byte {
	b := make([]byte, 64)
	for i := range b {
		b[i] = byte(seed + 7*i)
	}
	b[1], b[2] = byte(seed>>8), byte(seed>>16)
	return b
}

// there is what stands in a sector at first: nothing that was written by a store.
func there(sector int) []byte {
	return block(200 + 3*sector)
}

// The tables of an image.
const (
	base = iota
	over
)

// state is how a store stands, but for what waits.
type state struct {
	mode, view, epoch, seq, done, gen int

	refs  [2][]int  // by table, and block
	dirty [2][]bool // by table, and page
	slots [2][]int  // likewise
	slot  int       // the last region's
	uses  []api.Use
	at    api.Pos
	bytes []string // of each sector, as it is written, or will be
}

// clone is a state of its own.
func (s state) clone() state {
	for table := range 2 {
		s.refs[table] = slices.Clone(s.refs[table])
		s.dirty[table] = slices.Clone(s.dirty[table])
		s.slots[table] = slices.Clone(s.slots[table])
	}
	s.uses = slices.Clone(s.uses)
	s.bytes = slices.Clone(s.bytes)
	return s
}

// set gives a block of a table that ref.
func (s *state) set(table, b, ref int) {
	if s.refs[table][b] != ref {
		s.dirty[table][b/15] = true
	}
	s.refs[table][b] = ref
}

// commit lets what is pending stand.
func (s *state) commit() {
	for b, ref := range s.refs[over] {
		if ref != -1 {
			s.set(base, b, ref)
			s.set(over, b, -1)
		}
	}
}

// forget lets nothing be pending.
func (s *state) forget() {
	for b := range s.refs[over] {
		s.set(over, b, -1)
	}
	s.seq = s.done
}

// page is the refs of a page.
func (s *state) page(table, k int) []int {
	return s.refs[table][15*k : min(15*k+15, len(s.refs[table]))]
}

// live is how many refs lie in a segment.
func (s *state) live(g *geom.Geom, seg int) int {
	n := 0
	for _, refs := range s.refs {
		for _, ref := range refs {
			if ref >= g.Seg(seg) && ref < g.Seg(seg)+g.Config().Len {
				n++
			}
		}
	}
	return n
}

// free are the Free segments, rising.
func (s *state) free() []int {
	var l []int
	for k, u := range s.uses {
		if u.State == api.Free {
			l = append(l, k)
		}
	}
	return l
}

// status is how a store should tell that it stands.
func (s *state) status() api.Status {
	live, pending := 0, 0
	for b := range s.refs[over] {
		for table := range s.refs {
			if s.refs[table][b] > 0 {
				live++
			}
		}
		if s.refs[over][b] != -1 {
			pending++
		}
	}
	return api.Status{
		Mode: s.mode, View: s.view, Epoch: s.epoch, Seq: s.seq, Done: s.done, Mount: s.at.Mount, Gen: s.gen,
		Free: len(s.free()), Live: live, Pending: pending,
	}
}

// read is the bytes that a block has at that ref.
func (s *state) read(ref int) string {
	if ref == 0 {
		return string(zeros())
	}
	return s.bytes[ref]
}

// stands is what each block has, by what stands.
func (s *state) stands() string {
	var all strings.Builder
	for _, ref := range s.refs[base] {
		all.WriteString(s.read(ref))
	}
	return all.String()
}

// flushed is the sector of an act that is none: of a Flush.
const flushed = -1

// act is a sector that is written, or a Flush.
type act struct {
	sector int
	data   string
}

// hand is a store, and, kept by hand beside it, how it should stand.
type hand struct {
	t  *testing.T
	c  api.Config
	id int
	d  *vdisk.Disk
	g  *geom.Geom
	s  *store.Store

	state
	items   []api.Item // that wait
	blocks  [][]byte
	emitted state // as the log has it, with all that is held
	sure    state // as it stood behind the last call that made all safe

	was  []string // what the disk had at its beginning
	acts []act    // since then
}

// configs are some with each number at its least and its greatest, and between; that
// of the chapter on geometry first.
func configs() []api.Config {
	return []api.Config{
		{Blocks: 20, Segs: 8, Len: 24}, {Blocks: 1, Segs: 8, Len: 64}, {Blocks: 64, Segs: 32, Len: 24},
		{Blocks: 64, Segs: 32, Len: 64}, {Blocks: 15, Segs: 9, Len: 25}, {Blocks: 31, Segs: 17, Len: 40},
		{Blocks: 16, Segs: 16, Len: 33}, {Blocks: 45, Segs: 10, Len: 24},
	}
}

// device is a disk of so many sectors more than a geometry needs, with bytes in each of
// them that are nothing's, and no acts.
func device(t *testing.T, c api.Config, more int) (*vdisk.Disk, *geom.Geom) {
	t.Helper()
	g, e := geom.New(c)
	is(t, "geom.New", e, api.OK)
	d, e := vdisk.New(g.Sectors() + more)
	is(t, "vdisk.New", e, api.OK)
	for s := range d.Sectors() {
		is(t, "Write", d.Write(s, there(s)), api.OK)
	}
	is(t, "Flush", d.Flush(), api.OK)
	return d.Crash(), g
}

// made is a store of a device that is new.
func made(t *testing.T, c api.Config, id int) *hand {
	t.Helper()
	d, _ := device(t, c, beyond)
	s, e := store.New(d, c, id)
	if s == nil || e != api.OK {
		t.Fatalf("New of %v: got %v, %d", c, s, e)
	}
	h := &hand{t: t, c: c, id: id, d: d, g: s.Geom(), s: s}
	h.mode, h.view, h.gen, h.at = api.Backup, 1, 1, api.Pos{LSN: 1, Mount: 1}
	h.refs[base], h.refs[over] = make([]int, c.Blocks), slices.Repeat([]int{-1}, c.Blocks)
	for table := range 2 {
		h.dirty[table], h.slots[table] = make([]bool, h.g.Pages()), make([]int, h.g.Pages())
	}
	h.uses = make([]api.Use, c.Segs)
	h.uses[0].State = api.Open
	h.bytes = contents(t, d)
	h.begin()
	return h
}

// small is a store of eight segments of 24 sectors, the first of which begins at
// sector 14.
func small(t *testing.T) *hand {
	t.Helper()
	return made(t, configs()[0], 7)
}

// primary is a store that is a Primary, of view 2.
func primary(t *testing.T, c api.Config) *hand {
	t.Helper()
	h := made(t, c, 7)
	h.do(raises(2, api.Primary))
	return h
}

// begin is a store whose disk begins with what it has now, all of it safe.
func (h *hand) begin() {
	h.t.Helper()
	// Another disk has no acts; what the store does goes to its own.
	h.was, h.acts = contents(h.t, h.d), make([]act, h.d.Acts())
	for n := range h.acts {
		h.acts[n].sector = flushed
	}
	h.emitted, h.sure = h.clone(), h.clone()
}

// contents is what each sector of a disk has, held or safe, fault or none.
func contents(t *testing.T, d *vdisk.Disk) []string {
	t.Helper()
	whole := d
	l := make([]string, d.Sectors())
	for s := range l {
		b, e := whole.Read(s)
		if e != api.OK {
			// A copy has power, and its faults may be taken away.
			whole = d.Crash(ones(d.Held())...)
			for k := range l {
				whole.Fault(k, false)
			}
			b, e = whole.Read(s)
		}
		is(t, "Read", e, api.OK)
		l[s] = string(b)
	}
	return l
}

// lay is bytes that should be written, sector by sector.
func (h *hand) lay(at int, b []byte) {
	for part := range slices.Chunk(b, 64) {
		h.acts = append(h.acts, act{at, string(part)})
		h.bytes[at] = string(part)
		at++
	}
}

// flush is a Flush that should be done.
func (h *hand) flush() {
	h.acts = append(h.acts, act{sector: flushed})
}

// record is a record that should be written at the place.
func (h *hand) record(items []api.Item, blocks [][]byte) {
	h.t.Helper()
	b, sum, e := record.Encode(api.Record{Mount: h.at.Mount, LSN: h.at.LSN, Prev: h.at.Prev, Items: items, Blocks: blocks})
	is(h.t, "record.Encode", e, api.OK)
	h.lay(h.g.Seg(h.at.Seg)+h.at.Off, b)
	h.uses[h.at.Seg].Stamp = h.at.LSN
	h.at.Off, h.at.LSN, h.at.Prev = h.at.Off+len(b)/64, h.at.LSN+1, sum
}

// heads is a head that should be written, of the place's segment.
func (h *hand) heads() {
	h.t.Helper()
	b, e := head.Encode(api.Head{Seg: h.at.Seg, Mount: h.at.Mount, LSN: h.at.LSN, Prev: h.at.Prev})
	is(h.t, "head.Encode", e, api.OK)
	h.lay(h.g.Seg(h.at.Seg), b)
	h.at.Off = 1
}

// emits is an Emit that should be done.
func (h *hand) emits() {
	h.t.Helper()
	if len(h.items) == 0 {
		return
	}
	if h.at.Off == 0 {
		h.heads()
	}
	h.record(h.items, h.blocks)
	h.items, h.blocks = nil, nil
	h.emitted = h.clone()
}

// loaded tells whether an item has a block.
func loaded(i api.Item) bool {
	return i.Kind == api.Write || i.Kind == api.Move || i.Kind == api.Put
}

// adds is an item that should wait: where its block will lie.
func (h *hand) adds(i api.Item, data []byte) (int, api.Errno) {
	h.t.Helper()
	one, kept := 1, 2
	if loaded(i) {
		one = 2
	}
	if i.Kind == api.Move {
		kept = 0
	}
	// The sectors from the place on up to the last one, which is kept for a Next.
	left := h.c.Len - 1 - max(1, h.at.Off)
	if len(h.items) == 6 || len(h.blocks)+one > left {
		if len(h.items) > 0 {
			left -= 1 + len(h.blocks)
		}
		free := h.free()
		if one > left && len(free) <= kept {
			return 0, api.ErrSpace
		}
		h.emits()
		if one > left {
			from := h.at.Seg
			h.record([]api.Item{{Kind: api.Next, Value: free[0]}}, nil)
			h.uses[from].State, h.uses[free[0]].State = api.Sealed, api.Open
			h.at.Seg = free[0]
			h.heads()
			h.emitted = h.clone()
		}
	}
	h.items = append(h.items, i)
	if !loaded(i) {
		return 0, api.OK
	}
	h.blocks = append(h.blocks, slices.Clone(data))
	at := h.g.Seg(h.at.Seg) + max(1, h.at.Off) + len(h.blocks)
	h.bytes[at] = string(data)
	return at, api.OK
}

// should is what a call, which is right as things stand, should answer, and does it by
// hand.
func (h *hand) should(x step) api.Errno {
	h.t.Helper()
	e := api.OK
	switch x.call {
	case write:
		e = h.lays(over, x, api.Item{Kind: api.Write, Block: x.a})
	case put:
		e = h.lays(base, x, api.Item{Kind: api.Put, Block: x.a})
	case trim:
		e = h.clears(over, x, api.Item{Kind: api.Trim, Block: x.a, Count: x.b})
	case drop:
		e = h.clears(base, x, api.Item{Kind: api.Drop, Block: x.a, Count: x.b})
	case mark:
		e = h.ends(x)
	case sync:
		h.emits()
		h.flush()
	case move:
		e = h.lays(h.table(x), x, api.Item{Kind: api.Move, Block: x.a, Value: x.b})
	case raise:
		h.forget()
		h.view, h.mode = x.a, x.b
		h.checks()
	case check:
		h.checks()
	}
	if e != api.OK {
		return e
	}
	if len(h.items) == 0 {
		h.emitted = h.clone()
	}
	if x.settles() {
		h.sure = h.clone()
	}
	return api.OK
}

// settles tells whether all is safe behind a call.
func (x step) settles() bool {
	return x.call == mark || x.call == sync || x.call == check || x.call == raise
}

// table is the one that has the block that a Move is of.
func (h *hand) table(x step) int {
	if h.refs[base][x.a] == x.b {
		return base
	}
	return over
}

// lays is a Write, a Put or a Move.
func (h *hand) lays(table int, x step, i api.Item) api.Errno {
	h.t.Helper()
	data := x.data
	if x.call == move {
		data = []byte(h.bytes[x.b])
	}
	at, e := h.adds(i, data)
	if e != api.OK {
		return e
	}
	h.set(table, x.a, at)
	if x.call == write {
		h.seq++
	}
	return api.OK
}

// clears is a Trim or a Drop.
func (h *hand) clears(table int, x step, i api.Item) api.Errno {
	h.t.Helper()
	if _, e := h.adds(i, nil); e != api.OK {
		return e
	}
	for b := x.a; b < x.a+x.b; b++ {
		h.set(table, b, 0)
	}
	if x.call == trim {
		h.seq++
	}
	return api.OK
}

// ends is a Mark.
func (h *hand) ends(x step) api.Errno {
	h.t.Helper()
	if _, e := h.adds(api.Item{Kind: api.Mark, Value: x.a}, nil); e != api.OK {
		return e
	}
	h.emits()
	h.flush()
	h.epoch, h.seq, h.done = x.a, h.seq+1, h.seq+1
	h.commit()
	return api.OK
}

// checks is a Checkpoint.
func (h *hand) checks() {
	h.t.Helper()
	h.emits()
	for table, dirty := range h.dirty {
		for k := range dirty {
			if !dirty[k] {
				continue
			}
			h.slots[table][k] = 1 - h.slots[table][k]
			b, e := page.Encode(h.page(table, k)...)
			is(h.t, "page.Encode", e, api.OK)
			h.lay(h.g.Page(table == over, k, h.slots[table][k]), b)
			dirty[k] = false
		}
	}
	h.flush()
	for s := range h.uses {
		if h.uses[s].State == api.Sealed && h.live(h.g, s) == 0 {
			h.uses[s].State = api.Free
		}
	}
	h.gen, h.slot = h.gen+1, 1-h.slot
	b, e := region.Encode(h.g, h.region())
	is(h.t, "region.Encode", e, api.OK)
	h.lay(h.g.Region(h.slot), b)
	h.flush()
}

// region is what a state's last region tells, if it was written now.
func (s *state) region() api.Region {
	return api.Region{
		Gen: s.gen, View: s.view, Mode: s.mode, Epoch: s.epoch, Seq: s.seq, Done: s.done, At: s.at,
		Base: s.slots[base], Over: s.slots[over], Segs: s.uses,
	}
}

// do calls the store, and fails unless it answers OK, and by hand too.
func (h *hand) do(l ...step) {
	h.t.Helper()
	for _, x := range l {
		is(h.t, x.String()+", by hand", h.answers(x), api.OK)
	}
}

// answers calls the store, and fails unless it answers what it should, which is told.
func (h *hand) answers(x step) api.Errno {
	h.t.Helper()
	want := h.should(x)
	is(h.t, x.String(), x.on(h.s), want)
	return want
}

// tells fails unless the store tells of itself what it should.
func (h *hand) tells(what string) {
	h.t.Helper()
	is(h.t, what+": Status", h.s.Status(), h.status())
	is(h.t, what+": Pos", h.s.Pos(), h.at)
	is(h.t, what+": Disk", h.s.Disk(), h.d)
	is(h.t, what+": Config", h.s.Geom().Config(), h.c)
	same(h.t, what+": Uses", h.s.Table().Uses(false), h.uses)
	for s := range h.uses {
		is(h.t, fmt.Sprint(what, ": Live of ", s), h.s.Table().Live(s), h.live(h.g, s))
	}
	for table := range h.refs {
		var dirty []int
		for k := range h.dirty[table] {
			same(h.t, fmt.Sprint(what, ": refs of page ", k, " of ", table), h.s.Image().Page(table == over, k), h.page(table, k))
			if h.dirty[table][k] {
				dirty = append(dirty, k)
			}
		}
		same(h.t, fmt.Sprint(what, ": dirty pages of ", table), slices.Collect(h.s.Image().Dirty(table == over)), dirty)
	}
	is(h.t, what+": Acts", h.d.Acts(), len(h.acts))
	is(h.t, what+": Held", h.d.Held(), len(h.acts)-safe(h.acts))
}

// shows fails unless each block reads as it should.
func (h *hand) shows(what string) {
	h.t.Helper()
	for b := range h.c.Blocks {
		ref := h.refs[base][b]
		got, e := h.s.Read(b)
		is(h.t, fmt.Sprint(what, ": Read ", b), e, api.OK)
		is(h.t, fmt.Sprint(what, ": Read ", b), string(got), h.read(ref))
		if h.refs[over][b] != -1 {
			ref = h.refs[over][b]
		}
		got, e = h.s.Look(b)
		is(h.t, fmt.Sprint(what, ": Look ", b), e, api.OK)
		is(h.t, fmt.Sprint(what, ": Look ", b), string(got), h.read(ref))
	}
}

// holds fails unless all stands as it should, on the disk and off it.
func (h *hand) holds(what string) {
	h.t.Helper()
	h.tells(what)
	h.shows(what)
	has(h.t, what, h.d, h.was, h.acts)
}

// safe is how many acts there are up to the last Flush.
func safe(acts []act) int {
	n := len(acts)
	for n > 0 && acts[n-1].sector != flushed {
		n--
	}
	return n
}

// has fails unless a disk has what it had, and these acts.
func has(t *testing.T, what string, d *vdisk.Disk, was []string, acts []act) {
	t.Helper()
	want := slices.Clone(was)
	for _, a := range acts {
		if a.sector != flushed {
			want[a.sector] = a.data
		}
	}
	for s, got := range contents(t, d) {
		if got != want[s] {
			t.Errorf("%s: sector %d: got %v, want %v", what, s, []byte(got), []byte(want[s]))
			return
		}
	}
}

// ones are so many picks of a crash that leaves all that is held.
func ones(n int) []int {
	return slices.Repeat([]int{1}, n)
}

// superblock is that of a config, as it is written.
func superblock(t *testing.T, c api.Config, id, mount int) []byte {
	t.Helper()
	b, e := super.Encode(api.Super{Config: c, ID: id, Mount: mount})
	is(t, "super.Encode", e, api.OK)
	return b
}

// is fails unless a call answered that.
func is[T comparable](t *testing.T, what string, got, want T) {
	if got != want {
		t.Helper() // here, as it takes its time
		t.Errorf("%s: got %v, want %v", what, got, want)
	}
}

// same fails unless two lists are the same: nil and an empty one are.
func same[T comparable](t *testing.T, what string, got, want []T) {
	if !slices.Equal(got, want) {
		t.Helper()
		t.Errorf("%s: got %v, want %v", what, got, want)
	}
}

// rule picks numbers, always the same ones.
type rule uint32

func (r *rule) pick(below int) int {
	*r = *r*1664525 + 1013904223
	return int(*r>>8) % below
}
