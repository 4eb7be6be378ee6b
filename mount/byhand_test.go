package mount_test

import (
	"slices"
	"testing"

	"keelson/api"
	"keelson/geom"
	"keelson/head"
	"keelson/mount"
	"keelson/page"
	"keelson/record"
	"keelson/region"
	"keelson/super"
	"keelson/vdisk"
)

// finding is what should be found on a disk, read sector by sector.
type finding struct {
	d   *vdisk.Disk
	own api.Super
	g   *geom.Geom
	state
	asked []int // the sectors that are read, in order
	acts  []act // what should be written
}

// must ends a finding at an error.
func must(e api.Errno) {
	if e != api.OK {
		panic(e)
	}
}

// right ends a finding at what is none.
func right(ok bool) {
	if !ok {
		panic(api.ErrBad)
	}
}

// sector is what stands there.
func (f *finding) sector(at int) []byte {
	f.asked = append(f.asked, at)
	b, e := f.d.Read(at)
	must(e)
	return b
}

// sectors are what n of them have.
func (f *finding) sectors(at, n int) []byte {
	var l []byte
	for k := range n {
		l = append(l, f.sector(at+k)...)
	}
	return l
}

// byHand is what should be found on a disk, and the error, if it should be none.
func byHand(d *vdisk.Disk) (f *finding, e api.Errno) {
	f = &finding{d: d}
	defer func() {
		if x, ok := recover().(api.Errno); ok {
			e = x
		}
	}()
	f.device()
	at := f.region()
	f.pages()
	end := f.log(at)
	f.forget()
	right(end.LSN <= maxNum && end.Off < f.own.Len)
	right(f.uses[end.Seg].State == api.Open)
	right(f.own.Mount < maxNum)
	f.at = end
	f.at.Mount = f.own.Mount + 1
	f.write(f.g.Seg(end.Seg)+end.Off, zeros())
	b, e := super.Encode(api.Super{Config: f.own.Config, ID: f.own.ID, Mount: f.at.Mount})
	must(e)
	f.write(f.at.Mount%2, b)
	f.acts = append(f.acts, act{sector: flushed})
	return f, api.OK
}

// write is a sector that should be written.
func (f *finding) write(at int, b []byte) {
	f.acts = append(f.acts, act{at, string(b)})
}

// device is the newer superblock.
func (f *finding) device() {
	var most int
	for _, b := range [][]byte{f.sector(0), f.sector(1)} {
		if s, e := super.Decode(b); e == api.OK && s.Mount > most {
			f.own, most = s, s.Mount
		}
	}
	right(most > 0)
	g, e := geom.New(f.own.Config)
	must(e)
	f.g = g
	right(f.d.Sectors() >= g.Sectors())
}

// region is the newer region: where the log goes on.
func (f *finding) region() api.Pos {
	var r api.Region
	n := f.g.RegionLen()
	for slot, b := range [][]byte{f.sectors(2, n), f.sectors(2+n, n)} {
		if x, e := region.Decode(f.g, b); e == api.OK && x.Gen > r.Gen {
			r, f.slot = x, slot
		}
	}
	right(r.Gen > 0)
	f.mode, f.view, f.epoch, f.seq, f.done, f.gen = r.Mode, r.View, r.Epoch, r.Seq, r.Done, r.Gen
	f.slots, f.uses = [2][]int{r.Base, r.Over}, r.Segs
	return r.At
}

// pages are the refs of both tables.
func (f *finding) pages() {
	for table, slots := range f.slots {
		f.dirty[table] = make([]bool, len(slots))
		for k, slot := range slots {
			l, e := page.Decode(f.sector(2 + 2*f.g.RegionLen() + 2*(table*len(slots)+k) + slot))
			must(e)
			for _, ref := range l[:min(15, f.own.Blocks-15*k)] {
				right(ref == 0 || ref == -table || ref >= f.g.Seg(0) && ref < f.g.Sectors())
				f.refs[table] = append(f.refs[table], ref)
			}
		}
	}
}

// log is what the log has from a place on: where it ends.
func (f *finding) log(p api.Pos) api.Pos {
	for most := p.Mount; ; {
		if p.Off == 0 {
			h, e := head.Decode(f.sector(f.g.Seg(p.Seg)))
			if e != api.OK || h.Seg != p.Seg || h.LSN != p.LSN || h.Prev != p.Prev || h.Mount < p.Mount {
				return p
			}
			p.Off, p.Mount = 1, h.Mount
		}
		r, n, sum := f.record(p)
		if n == 0 || r.LSN != p.LSN || r.Prev != p.Prev || r.Mount < p.Mount {
			return p
		}
		if r.Mount > most {
			f.forget()
		}
		most = r.Mount
		f.takes(p, r)
		p = api.Pos{Seg: p.Seg, Off: p.Off + n, LSN: p.LSN + 1, Prev: sum, Mount: r.Mount}
		if k := slices.IndexFunc(r.Items, func(i api.Item) bool { return i.Kind == api.Next }); k >= 0 {
			if r.Items[k].Value >= f.own.Segs {
				return p
			}
			p.Seg, p.Off = r.Items[k].Value, 0
		}
	}
}

// record is the one at a place, its sectors and its sum; 0 sectors of none.
func (f *finding) record(p api.Pos) (api.Record, int, int) {
	if p.Off == f.own.Len {
		return api.Record{}, 0, 0
	}
	at := f.g.Seg(p.Seg) + p.Off
	first := f.sector(at)
	n := record.Size(first)
	if n == 0 || p.Off+n > f.own.Len {
		return api.Record{}, 0, 0
	}
	r, sum, e := record.Decode(append(first, f.sectors(at+1, n-1)...))
	if e != api.OK {
		return api.Record{}, 0, 0
	}
	return r, n, sum
}

// takes is what a record tells of.
func (f *finding) takes(p api.Pos, r api.Record) {
	f.uses[p.Seg].Stamp = r.LSN
	at, blocks := f.g.Seg(p.Seg)+p.Off, f.own.Blocks
	for _, i := range r.Items {
		table := base
		if loaded(i) {
			at++
		}
		switch i.Kind {
		case api.Write, api.Trim:
			table = over
			f.seq++
		case api.Mark:
			f.seq++
			f.done, f.epoch = f.seq, i.Value
			f.commit()
		case api.Next:
			if i.Value < f.own.Segs && f.uses[i.Value].State == api.Free {
				f.uses[i.Value].State = api.Open
			}
			f.uses[p.Seg].State = api.Sealed
		}
		switch b := i.Block; {
		case (i.Kind == api.Write || i.Kind == api.Put) && b < blocks:
			f.set(table, b, at)
		case (i.Kind == api.Trim || i.Kind == api.Drop) && b+i.Count <= blocks:
			for k := range i.Count {
				f.set(table, b+k, 0)
			}
		case i.Kind == api.Move && b < blocks && f.refs[base][b] == i.Value:
			f.set(base, b, at)
		case i.Kind == api.Move && b < blocks && f.refs[over][b] == i.Value:
			f.set(over, b, at)
		}
	}
}

// opens opens a disk, and fails unless it finds there what it should; it tells the
// store, with what is kept by hand of it, or none.
func opens(t *testing.T, what string, d *vdisk.Disk) (*hand, api.Errno) {
	t.Helper()
	f, want := byHand(d.Crash(ones(d.Held())...))
	if d.Off() {
		want = api.ErrOff
	}
	was, acts, off := contents(t, d), d.Acts(), d.Off()
	s, e := mount.Open(d)
	is(t, what+": Open", e, want)
	is(t, what+": a store", s != nil, want == api.OK)
	is(t, what+": Off", d.Off(), off)
	if want != api.OK {
		is(t, what+": Acts", d.Acts(), acts)
		has(t, what, d, was, nil)
		return nil, e
	}
	if s == nil {
		t.FailNow()
	}
	h := &hand{t: t, c: f.own.Config, id: f.own.ID, d: d, g: f.g, s: s, state: f.state, was: was, acts: f.acts}
	h.acts = append(slices.Repeat([]act{{sector: flushed}}, acts), f.acts...)
	h.bytes = slices.Clone(was)
	for _, a := range f.acts[:2] {
		h.bytes[a.sector] = a.data
	}
	same(t, what+": the disk", contents(t, d), h.bytes)
	h.emitted, h.sure = h.clone(), h.clone()
	h.tells(what)
	return h, api.OK
}

// crash is the store that is found behind a crash, and fails unless it stands as that
// state, without what is pending.
func (h *hand) crash(what string, from state, picks ...int) *hand {
	h.t.Helper()
	d := h.d.Crash(picks...)
	n, e := opens(h.t, what, d)
	is(h.t, what+": Open", e, api.OK)
	if n == nil {
		h.t.FailNow()
	}
	from = from.clone()
	from.forget()
	from.at.Mount = h.at.Mount + 1
	is(h.t, what+": ID", n.id, h.id)
	is(h.t, what+": config", n.c, h.c)
	is(h.t, what+": slot", n.slot, from.slot)
	n.state = from
	n.holds(what)
	n.emitted, n.sure = n.clone(), n.clone()
	return n
}

// none is the store behind a crash that leaves nothing that was held.
func (h *hand) none(what string) *hand {
	h.t.Helper()
	return h.crash(what+", nothing held", h.sure)
}

// all is the store behind a crash that leaves all that was held.
func (h *hand) all(what string) *hand {
	h.t.Helper()
	return h.crash(what+", all of it", h.emitted, ones(h.d.Held())...)
}

// picked is a step that a rule picks, right as things stand.
func (h *hand) picked(r *rule, n int) step {
	b := r.pick(h.c.Blocks)
	count := 1 + r.pick(h.c.Blocks-b)
	switch x := r.pick(60); {
	case x < 2:
		return checks()
	case x < 9:
		if ref := h.refs[r.pick(2)][b]; ref > 0 {
			return moves(b, ref)
		}
	case x == 9 && h.mode == api.Backup:
		return raises(h.view+1+r.pick(3), api.Backup)
	case x < 16 && h.mode == api.Backup:
		return marks(h.epoch + 1)
	case x < 16:
		return syncs()
	case x < 22 && h.mode == api.Backup:
		return trims(b, count)
	case x < 22:
		return drops(b, count)
	}
	if h.mode == api.Backup {
		return writes(b, n)
	}
	return puts(b, n)
}
