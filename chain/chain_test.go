package chain_test

import (
	"bytes"
	"fmt"
	"hash/crc32"
	"iter"
	"math"
	"slices"
	"testing"

	"keelson/api"
	"keelson/chain"
	"keelson/geom"
	"keelson/head"
	"keelson/record"
	"keelson/vdisk"
)

const (
	maxNum = 1<<31 - 1
	maxSum = 1<<32 - 1
)

// beyond is how many sectors the disks here have behind the last segment: what
// stands there is in no segment.
const beyond = 10

// far is what no number of a record, a head or a segment is; some of it is one, if
// only its lowest one or four bytes are looked at.
var far = []int{
	-1, -2, -255, -256, -1 << 31, -1<<31 + 1, -1<<32 + 1, -1<<32 + 10, -1 << 32, 1 << 31, 1<<31 + 1, 1<<32 + 1, 1<<32 + 10,
	1 << 33, 1<<40 + 1, math.MaxInt, math.MaxInt - 1, math.MinInt, math.MinInt + 1, math.MinInt + 10,
}

// configs are some with each number at its least and its greatest, and between;
// that of the chapter on scans first.
func configs() []api.Config {
	return []api.Config{
		{Blocks: 20, Segs: 8, Len: 24}, {Blocks: 1, Segs: 8, Len: 64}, {Blocks: 64, Segs: 32, Len: 24},
		{Blocks: 64, Segs: 32, Len: 64}, {Blocks: 15, Segs: 9, Len: 25}, {Blocks: 31, Segs: 17, Len: 40},
	}
}

func write(block int) api.Item      { return api.Item{Kind: api.Write, Block: block} }
func trim(block, n int) api.Item    { return api.Item{Kind: api.Trim, Block: block, Count: n} }
func mark(epoch int) api.Item       { return api.Item{Kind: api.Mark, Value: epoch} }
func move(block, from int) api.Item { return api.Item{Kind: api.Move, Block: block, Value: from} }
func put(block int) api.Item        { return api.Item{Kind: api.Put, Block: block} }
func drop(block, n int) api.Item    { return api.Item{Kind: api.Drop, Block: block, Count: n} }
func next(seg int) api.Item         { return api.Item{Kind: api.Next, Value: seg} }

// writes are so many Writes.
func writes(n int) []api.Item {
	var l []api.Item
	for b := range n {
		l = append(l, write(b))
	}
	return l
}

// sized are items of a record of so many sectors, 1 to 7.
func sized(n int) []api.Item {
	if n == 1 {
		return []api.Item{mark(3)}
	}
	return writes(n - 1)
}

// block is 64 bytes, all of them others than those of another seed.
func block(seed int) []byte {
	b := make([]byte, 64)
	for i := range b {
		b[i] = byte(seed + 7*i)
	}
	return b
}

// of is a record of these items, with the blocks that they have, at these numbers.
func of(mount, lsn, prev int, l ...api.Item) api.Record {
	r := api.Record{Mount: mount, LSN: lsn, Prev: prev, Items: l}
	for k, i := range l {
		if i.Kind == api.Write || i.Kind == api.Move || i.Kind == api.Put {
			r.Blocks = append(r.Blocks, block(37*k+11*lsn))
		}
	}
	return r
}

// at is a place.
func at(seg, off, lsn, prev, mount int) api.Pos {
	return api.Pos{Seg: seg, Off: off, LSN: lsn, Prev: prev, Mount: mount}
}

// device is an empty disk of a geometry, with some room beyond.
func device(t *testing.T, c api.Config) (*vdisk.Disk, *geom.Geom) {
	t.Helper()
	g, e := geom.New(c)
	is(t, "geom.New", e, api.OK)
	d, e := vdisk.New(min(g.Sectors()+beyond, api.MaxSectors))
	is(t, "vdisk.New", e, api.OK)
	return d, g
}

// small is an empty disk of eight segments of 24 sectors, which begin at sector 14.
func small(t *testing.T) (*vdisk.Disk, *geom.Geom) {
	t.Helper()
	return device(t, configs()[0])
}

// lay writes bytes, sector by sector.
func lay(t *testing.T, d *vdisk.Disk, sector int, b []byte) {
	t.Helper()
	for i, part := range slices.Collect(slices.Chunk(b, 64)) {
		is(t, "Write", d.Write(sector+i, part), api.OK)
	}
}

// encoded is the bytes of a record.
func encoded(t *testing.T, r api.Record) []byte {
	t.Helper()
	b, _, e := record.Encode(r)
	is(t, "record.Encode", e, api.OK)
	return b
}

// headed is the bytes of a head.
func headed(t *testing.T, seg, mount, lsn, prev int) []byte {
	t.Helper()
	b, e := head.Encode(api.Head{Seg: seg, Mount: mount, LSN: lsn, Prev: prev})
	is(t, "head.Encode", e, api.OK)
	return b
}

// sumOf is a record's sum, made beside the program.
func sumOf(t *testing.T, r api.Record) int {
	t.Helper()
	b := encoded(t, r)
	return int(crc32.Checksum(append(b[:60:60], b[64:]...), crc32.MakeTable(crc32.Castagnoli)))
}

// behind is the place behind a record that follows a place, without a look at Nexts.
func behind(t *testing.T, p api.Pos, r api.Record) api.Pos {
	t.Helper()
	return at(p.Seg, p.Off+1+len(r.Blocks), p.LSN+1, sumOf(t, r), r.Mount)
}

// log is records, one behind the other, kept by hand beside the disk.
type log struct {
	d       *vdisk.Disk
	g       *geom.Geom
	from    api.Pos   // where it begins: at Off 0
	places  []api.Pos // that the records follow
	records []api.Record
	ends    []api.Pos // behind each record, heads not asked
	at      api.Pos   // behind all
}

// begun is a log without records, behind a head that stands on the disk.
func begun(t *testing.T, d *vdisk.Disk, g *geom.Geom, seg, mount, lsn, prev int) *log {
	t.Helper()
	l := &log{d: d, g: g, from: at(seg, 0, lsn, prev, mount), at: at(seg, 0, lsn, prev, mount)}
	l.head(t, mount)
	return l
}

// head lays a head where the log goes on in another segment.
func (l *log) head(t *testing.T, mount int) {
	t.Helper()
	lay(t, l.d, l.g.Seg(l.at.Seg), headed(t, l.at.Seg, mount, l.at.LSN, l.at.Prev))
	l.at.Off, l.at.Mount = 1, mount
}

// add lays a record behind the others.
func (l *log) add(t *testing.T, mount int, items ...api.Item) {
	t.Helper()
	r := of(mount, l.at.LSN, l.at.Prev, items...)
	lay(t, l.d, l.g.Seg(l.at.Seg)+l.at.Off, encoded(t, r))
	l.places, l.records = append(l.places, l.at), append(l.records, r)
	l.at = behind(t, l.at, r)
	l.ends = append(l.ends, l.at)
}

// jump lays a record with a Next among its items, which goes on in a segment; no head.
func (l *log) jump(t *testing.T, mount, seg int, items ...api.Item) {
	t.Helper()
	l.add(t, mount, items...)
	l.at.Seg, l.at.Off = seg, 0
	l.ends[len(l.ends)-1] = l.at
}

// some is a log of four segments, 1, 5, 0 and 7, with ten records of 1 to 7 sectors
// each, those with the Nexts among them; from a place of LSN 10 and Mount 3 on.
func some(t *testing.T) *log {
	t.Helper()
	d, g := small(t)
	l := begun(t, d, g, 1, 3, 10, 77)
	l.add(t, 3, write(2), mark(1))
	l.add(t, 4, trim(1, 2))
	l.jump(t, 4, 5, write(3), next(5), put(4))
	l.head(t, 4)
	l.add(t, 6, writes(6)...)
	l.jump(t, 6, 0, next(0))
	l.head(t, 7)
	l.add(t, 7, move(1, 300), drop(0, 64))
	l.add(t, 7, mark(2))
	l.jump(t, 7, 7, write(1), write(2), next(7))
	l.head(t, 9)
	l.add(t, 9, put(63))
	l.add(t, 10, mark(3))
	return l
}

// seen is what one walk told, and what was told behind it.
type seen struct {
	places  []api.Pos
	records []api.Record
	end     api.Pos
	err     api.Errno
}

// told is the records i to j - 1 of a log, and the place behind them: with the last
// record that of the whole log, whose last head counts.
func (l *log) told(i, j int) seen {
	s := seen{places: l.places[i:j], records: l.records[i:j], end: l.at}
	if j > i && j < len(l.places) {
		s.end = l.ends[j-1]
	}
	return s
}

// all is the whole log.
func (l *log) all() seen {
	return l.told(0, len(l.places))
}

// none is a walk that tells nothing, and stays at a place.
func none(p api.Pos) seen {
	return seen{end: p}
}

// to is what was told with another place behind it.
func (s seen) to(p api.Pos) seen {
	s.end = p
	return s
}

// failed is a walk that an error ended.
func (s seen) failed(e api.Errno) seen {
	s.err = e
	return s
}

// stopped goes through, and stops behind the n-th record.
func stopped(c *chain.Chain, n int) seen {
	out := seen{}
	for p, r := range c.Records() {
		out.places, out.records = append(out.places, p), append(out.records, r)
		if len(out.places) == n {
			break
		}
	}
	out.end, out.err = c.End(), c.Err()
	return out
}

// through goes through all.
func through(c *chain.Chain) seen {
	return stopped(c, 0)
}

// whole is the chain of a log from its beginning on.
func (l *log) whole() *chain.Chain {
	return chain.New(l.d, l.g, l.from)
}

// is fails unless a call answered that.
func is[T comparable](t *testing.T, what string, got, want T) {
	t.Helper()
	if got != want {
		t.Errorf("%s: got %v, want %v", what, got, want)
	}
}

// tells fails unless a walk told that: a nil list and an empty one are the same.
func tells(t *testing.T, what string, got, want seen) {
	t.Helper()
	if g, w := fmt.Sprint(got), fmt.Sprint(want); g != w {
		t.Errorf("%s:\n got %s\nwant %s", what, g, w)
	}
}

// stands fails unless a Chain's End and Err are these.
func stands(t *testing.T, what string, c *chain.Chain, p api.Pos, e api.Errno) {
	t.Helper()
	is(t, what+": End", c.End(), p)
	is(t, what+": Err", c.Err(), e)
}

// turned is a copy of bytes with one bit turned.
func turned(b []byte, bit int) []byte {
	c := bytes.Clone(b)
	c[bit/8] ^= 1 << (bit % 8)
	return c
}

// A log that goes on in another segment whose head is lost: End at Off 0 there.
func TestP14_1Example(t *testing.T) {
	for _, c := range configs() {
		for seg := range c.Segs {
			d, g := device(t, c)
			l := begun(t, d, g, 1, 3, 10, 77)
			l.add(t, 3, write(1), mark(1))
			l.jump(t, 4, seg, next(seg))
			if seg == 1 {
				continue // its own head is not lost
			}
			p := at(seg, 0, 12, sumOf(t, l.records[1]), 4)
			tells(t, "nothing stands there", through(l.whole()), l.all().to(p))
			lay(t, d, g.Seg(seg)+1, encoded(t, of(4, 12, p.Prev, mark(2))))
			tells(t, "a record stands there, no head", through(l.whole()), l.all().to(p))
			l.head(t, 4)
			lay(t, d, g.Seg(seg), make([]byte, 64))
			tells(t, "a head that was lost", through(l.whole()), l.told(0, 2).to(p))
		}
	}
}

// What the log of the tests is, by hand.
func TestP14_1Some(t *testing.T) {
	l := some(t)
	got := through(l.whole())
	var lines string
	for i, p := range got.places {
		r := got.records[i]
		lines += fmt.Sprint("[", p.Seg, " ", p.Off, " ", p.LSN, " ", p.Mount, "]", r.LSN, " ", r.Mount, " ", 1+len(r.Blocks), "; ")
		if i == 0 {
			is(t, "Prev of the first place", p.Prev, 77)
		} else {
			is(t, "Prev of a place", p.Prev, sumOf(t, got.records[i-1]))
		}
		is(t, "Prev of a record", r.Prev, p.Prev)
	}
	is(t, "places and records", lines, "[1 1 10 3]10 3 2; [1 3 11 3]11 4 1; [1 4 12 4]12 4 3; "+
		"[5 1 13 4]13 6 7; [5 8 14 6]14 6 1; "+
		"[0 1 15 7]15 7 2; [0 3 16 7]16 7 1; [0 4 17 7]17 7 3; "+
		"[7 1 18 9]18 9 2; [7 3 19 9]19 10 1; ")
	is(t, "End", got.end, at(7, 4, 20, sumOf(t, l.records[9]), 10))
	is(t, "Err", got.err, api.OK)
	tells(t, "what was laid", got, l.all())
	is(t, "Flush", l.d.Flush(), api.OK)
	tells(t, "flushed", through(l.whole()), l.all())
	l.d = l.d.Crash()
	tells(t, "behind a crash", through(l.whole()), l.all())
}

// From each of its places the rest of the log is told; so it is from the beginning
// of each segment, with a Mount that is not above the head's.
func TestP14_1FromEachPlace(t *testing.T) {
	l := some(t)
	n := len(l.places)
	for i, p := range l.places {
		tells(t, "from a record's place", through(chain.New(l.d, l.g, p)), l.told(i, n))
		if p.Off != 1 {
			continue
		}
		for _, mount := range []int{p.Mount, p.Mount - 1, 0, -1, math.MinInt} {
			tells(t, "from a segment's beginning", through(chain.New(l.d, l.g, at(p.Seg, 0, p.LSN, p.Prev, mount))), l.told(i, n))
		}
	}
	tells(t, "from behind all", through(chain.New(l.d, l.g, l.at)), none(l.at))
}

// A place carries its own Mount to the first record, if no head is asked.
func TestP14_1MountOfThePlace(t *testing.T) {
	l := some(t)
	n := len(l.places)
	for i, p := range l.places {
		for _, mount := range []int{l.records[i].Mount, p.Mount, 1, 0, -5, math.MinInt} {
			q := at(p.Seg, p.Off, p.LSN, p.Prev, mount)
			want := l.told(i, n)
			want.places = append([]api.Pos{q}, want.places[1:]...)
			tells(t, "a Mount that the record follows", through(chain.New(l.d, l.g, q)), want)
		}
		for _, mount := range []int{l.records[i].Mount + 1, maxNum, math.MaxInt} {
			q := at(p.Seg, p.Off, p.LSN, p.Prev, mount)
			tells(t, "a Mount above the record's", through(chain.New(l.d, l.g, q)), none(q))
		}
	}
}

// filled is a log that goes through segments, with records of all sizes, and no Next
// in the last one.
func filled(t *testing.T, d *vdisk.Disk, g *geom.Geom, segs ...int) *log {
	t.Helper()
	l := begun(t, d, g, segs[0], 2, 100, maxSum)
	for i, seg := range segs {
		if i > 0 {
			l.head(t, l.at.Mount+i%2)
		}
		for k := seg; l.at.Off+1+k%7 < g.Config().Len; k++ {
			l.add(t, l.at.Mount+k%5/4, sized(1+k%7)...)
		}
		if i+1 < len(segs) {
			l.jump(t, l.at.Mount, segs[i+1], next(segs[i+1]))
		}
	}
	return l
}

// upTo are the numbers ahead of n.
func upTo(n int) []int {
	var l []int
	for i := range n {
		l = append(l, i)
	}
	return l
}

func TestP14_1OneSegment(t *testing.T) {
	for _, c := range configs() {
		for _, seg := range []int{0, 1, c.Segs - 1} {
			d, g := device(t, c)
			l := filled(t, d, g, seg)
			for i, p := range l.places {
				tells(t, "one segment", through(chain.New(d, g, p)), l.told(i, len(l.places)))
			}
			tells(t, "one segment", through(l.whole()), l.all())
		}
	}
}

func TestP14_1TwoSegments(t *testing.T) {
	for _, c := range configs()[:2] {
		for a := range c.Segs {
			for b := range c.Segs {
				if a == b {
					continue
				}
				d, g := device(t, c)
				l := filled(t, d, g, a, b)
				tells(t, "two segments", through(l.whole()), l.all())
			}
		}
	}
}

// All segments of a device, upwards, downwards and in leaps, full up to their ends.
func TestP14_1ManySegments(t *testing.T) {
	for _, c := range configs() {
		up := upTo(c.Segs)
		down := slices.Clone(up)
		slices.Reverse(down)
		var leaps []int
		for i := range c.Segs {
			leaps = append(leaps, (i*5+3)%c.Segs)
		}
		for _, segs := range [][]int{up, down, leaps} {
			d, g := device(t, c)
			l := filled(t, d, g, segs...)
			tells(t, "from the beginning", through(l.whole()), l.all())
			for i := 0; i < len(l.places); i += 7 {
				tells(t, "from within", through(chain.New(d, g, l.places[i])), l.told(i, len(l.places)))
			}
		}
	}
}

// A Next at each place among one to six items, with each Value: it goes on in that
// segment, if there is one, and else the log ends behind the record.
func TestP14_1NextAtEachItem(t *testing.T) {
	for seg := range api.MaxSegs {
		for n := 1; n <= 6; n++ {
			for k := range n {
				d, g := small(t)
				l := begun(t, d, g, 3, 3, 10, 77)
				l.add(t, 3, mark(1))
				items := writes(n)
				items[k] = next(seg)
				l.jump(t, 3, seg, items...)
				switch {
				case seg >= 8:
					l.at = behind(t, l.places[1], l.records[1])
					l.ends[1] = l.at
				case seg != 3:
					l.head(t, 3)
					l.add(t, 4, mark(2))
				}
				tells(t, "a Next behind a record", through(l.whole()), l.all())
				tells(t, "a Next at once", through(chain.New(d, g, l.places[1])), l.told(1, len(l.places)))
				tells(t, "stopped behind a Next", stopped(l.whole(), 2), l.told(0, 2).to(l.ends[1]))
			}
		}
	}
}

// In each geometry the last segment is one where the log goes on, and the one beyond
// it is none; what stands behind the record is not told.
func TestP14_1LastSegment(t *testing.T) {
	for _, c := range configs() {
		for _, seg := range []int{0, c.Segs - 2, c.Segs - 1, c.Segs, c.Segs + 1, api.MaxSegs - 1} {
			if seg >= api.MaxSegs {
				continue
			}
			d, g := device(t, c)
			l := begun(t, d, g, 1, 3, 10, 77)
			l.add(t, 3, write(1), next(seg))
			l.add(t, 3, mark(1))
			p := l.ends[0]
			want := l.told(0, 1).to(p)
			if seg < c.Segs {
				want.end = at(seg, 0, 11, p.Prev, 3)
			}
			tells(t, "no head", through(l.whole()), want)
			if seg < c.Segs {
				lay(t, d, g.Seg(seg), headed(t, seg, 3, 11, p.Prev))
				want.end = at(seg, 1, 11, p.Prev, 3)
			}
			tells(t, "a head", through(l.whole()), want)
			tells(t, "behind the Next", through(chain.New(d, g, p)), l.told(1, 2))
		}
	}
}

// The first of two Nexts counts, wherever they are among the items.
func TestP14_1TwoNexts(t *testing.T) {
	for _, segs := range [][2]int{{2, 5}, {5, 2}, {0, 7}, {7, 0}, {0, 5}, {5, 8}, {5, 31}, {5, 5}, {4, 1}} {
		for j := 1; j < 6; j++ {
			for i := range j {
				d, g := small(t)
				l := begun(t, d, g, 1, 3, 10, 77)
				items := writes(6)
				items[i], items[j] = next(segs[0]), next(segs[1])
				l.jump(t, 3, segs[0], items...)
				for seg := range 8 {
					if seg != 1 && seg != segs[0] {
						lay(t, d, g.Seg(seg), headed(t, seg, 3, 11, l.at.Prev))
						lay(t, d, g.Seg(seg)+1, encoded(t, of(3, 11, l.at.Prev, mark(9))))
					}
				}
				tells(t, "no head where it goes on", through(l.whole()), l.all())
				l.head(t, 3)
				l.add(t, 3, mark(8))
				tells(t, "it goes on", through(l.whole()), l.all())
			}
		}
	}
}

// With a first Next that is beyond the last segment the log ends, whatever the
// second one is.
func TestP14_1TwoNextsTheFirstBeyond(t *testing.T) {
	for _, segs := range [][2]int{{8, 5}, {31, 5}, {8, 0}, {8, 9}} {
		d, g := small(t)
		l := begun(t, d, g, 1, 3, 10, 77)
		l.add(t, 3, next(segs[0]), next(segs[1]))
		lay(t, d, g.Seg(5), headed(t, 5, 3, 11, l.at.Prev))
		tells(t, "it ends there", through(l.whole()), l.all())
	}
}

// No other kind of item takes the log to another segment, and all six may stand
// ahead of a Next, or behind it.
func TestP14_1OtherKinds(t *testing.T) {
	for _, i := range []api.Item{write(5), trim(5, 5), mark(5), move(5, 5), put(5), drop(5, 5)} {
		d, g := small(t)
		l := begun(t, d, g, 1, 3, 10, 77)
		for range 5 {
			l.add(t, 3, i)
		}
		lay(t, d, g.Seg(5), headed(t, 5, 3, l.at.LSN, l.at.Prev))
		tells(t, "no Next", through(l.whole()), l.all())
		l.jump(t, 3, 6, i, next(6), i)
		l.head(t, 3)
		l.add(t, 3, i)
		tells(t, "one behind it", through(l.whole()), l.all())
	}
}

func TestP14_1HeadFits(t *testing.T) {
	l := some(t)
	for _, mount := range []int{3, 2, 1, 0, -1, math.MinInt} {
		p := at(1, 0, 10, 77, mount)
		c := chain.New(l.d, l.g, p)
		stands(t, "ahead", c, p, api.OK)
		tells(t, "a head of that Mount, or above", through(c), l.all())
	}
}

func TestP14_1HeadDoesNotFit(t *testing.T) {
	l := some(t)
	places := []api.Pos{
		at(1, 0, 10, 77, 4), at(1, 0, 10, 77, maxNum), at(1, 0, 10, 77, math.MaxInt), at(1, 0, 9, 77, 3), at(1, 0, 11, 77, 3),
		at(1, 0, 10, 76, 3), at(1, 0, 10, 78, 3), at(1, 0, 0, 0, 0), at(0, 0, 10, 77, 3), at(2, 0, 10, 77, 3),
		at(7, 0, 10, 77, 3), at(1, 0, 77, 10, 3), at(1, 0, 3, 77, 3), at(1, 0, 1<<32+10, 77, 3), at(1, 0, 10, 1<<32+77, 3),
	}
	for _, n := range far {
		places = append(places, at(1, 0, n, 77, 3), at(1, 0, 10, n, 3))
	}
	for _, p := range places {
		tells(t, "a head that does not fit", through(chain.New(l.d, l.g, p)), none(p))
	}
}

// heads are those of some: which record stands behind each.
func heads() map[int]int {
	return map[int]int{1: 0, 5: 3, 0: 5, 7: 8}
}

// upToHead is the log ahead of a segment's head: it ends at Off 0 there.
func (l *log) upToHead(i int) seen {
	if i == 0 {
		return none(l.from)
	}
	return l.told(0, i)
}

// Behind a Next the head must have the LSN and the Prev of the place behind the
// record, its segment, and its Mount or a higher one; if it is above that of the
// record behind it, it counts, and the record does not follow.
func TestP14_1HeadBehindNext(t *testing.T) {
	for seg, i := range heads() {
		l := some(t)
		n := len(l.places)
		p := l.places[i]
		low, top := l.from.Mount, l.records[i].Mount
		if i > 0 {
			low = l.records[i-1].Mount
		}
		for _, h := range []api.Head{
			{Seg: seg, Mount: p.Mount, LSN: p.LSN - 1, Prev: p.Prev}, {Seg: seg, Mount: p.Mount, LSN: p.LSN + 1, Prev: p.Prev},
			{Seg: seg, Mount: p.Mount, LSN: maxNum, Prev: p.Prev}, {Seg: seg, Mount: p.Mount, LSN: p.LSN, Prev: p.Prev ^ 1},
			{Seg: seg, Mount: p.Mount, LSN: p.LSN, Prev: p.Prev ^ 1<<31}, {Seg: seg, Mount: p.Mount, LSN: p.LSN, Prev: 0},
			{Seg: (seg + 1) % 8, Mount: p.Mount, LSN: p.LSN, Prev: p.Prev}, {Seg: 31, Mount: p.Mount, LSN: p.LSN, Prev: p.Prev},
			{Seg: seg, Mount: low - 1, LSN: p.LSN, Prev: p.Prev}, {Seg: seg, Mount: 1, LSN: p.LSN, Prev: p.Prev},
		} {
			lay(t, l.d, l.g.Seg(seg), headed(t, h.Seg, h.Mount, h.LSN, h.Prev))
			tells(t, "a head that does not fit", through(l.whole()), l.upToHead(i))
		}
		for mount := low; mount <= top; mount++ {
			lay(t, l.d, l.g.Seg(seg), headed(t, seg, mount, p.LSN, p.Prev))
			l.places[i].Mount = mount
			tells(t, "a head that fits", through(l.whole()), l.told(0, n))
		}
		for _, mount := range []int{top + 1, maxNum} {
			lay(t, l.d, l.g.Seg(seg), headed(t, seg, mount, p.LSN, p.Prev))
			tells(t, "a head above the record", through(l.whole()), l.upToHead(i).to(at(seg, 1, p.LSN, p.Prev, mount)))
		}
	}
}

// What is no head ends the log there, be there a record behind it that would follow.
func TestP14_1NoHead(t *testing.T) {
	for seg, i := range heads() {
		l := some(t)
		p := l.places[i]
		own := headed(t, seg, p.Mount, p.LSN, p.Prev)
		noHeads := [][]byte{make([]byte, 64), block(1), encoded(t, of(p.Mount, p.LSN, p.Prev, mark(1))), append([]byte("KR"), own[2:]...)}
		for bit := range 512 {
			noHeads = append(noHeads, turned(own, bit))
		}
		for _, b := range noHeads {
			lay(t, l.d, l.g.Seg(seg), b)
			tells(t, "no head", through(l.whole()), l.upToHead(i))
		}
		tells(t, "no head, from Off 1 on", through(chain.New(l.d, l.g, p)), l.told(i, len(l.places)))
		lay(t, l.d, l.g.Seg(seg), own)
		tells(t, "the head again", through(l.whole()), l.all())
	}
}

// From Off 1 on the first segment's head is not asked; those of later ones are.
func TestP14_1HeadIsNotAsked(t *testing.T) {
	l := some(t)
	n := len(l.places)
	for _, b := range [][]byte{headed(t, 1, 9, 10, 77), headed(t, 1, 3, 11, 77), headed(t, 2, 3, 10, 77), make([]byte, 64)} {
		lay(t, l.d, l.g.Seg(1), b)
		for i, p := range l.places {
			tells(t, "from a record's place", through(chain.New(l.d, l.g, p)), l.told(i, n))
		}
	}
	l.d.Fault(l.g.Seg(1), true)
	for i, p := range l.places {
		tells(t, "a head that cannot be read", through(chain.New(l.d, l.g, p)), l.told(i, n))
	}
}

// followed is a disk each of whose sectors is the very same record.
func followed(t *testing.T, c api.Config) (*vdisk.Disk, *geom.Geom, api.Record) {
	t.Helper()
	d, g := device(t, c)
	r := of(2, 5, 9, mark(1))
	for sector := range d.Sectors() {
		lay(t, d, sector, encoded(t, r))
	}
	return d, g, r
}

// Around each segment, and at its first sector, stand records that would follow, if
// an Off could tell of them.
func TestP14_1Offs(t *testing.T) {
	for _, c := range configs() {
		d, g, r := followed(t, c)
		for _, s := range []int{0, 1, c.Segs - 2, c.Segs - 1} {
			for _, off := range []int{1, 2, 7, 17, c.Len - 2, c.Len - 1} {
				p := at(s, off, 5, 9, 2)
				want := seen{places: []api.Pos{p}, records: []api.Record{r}, end: behind(t, p, r)}
				tells(t, "within", through(chain.New(d, g, p)), want)
			}
			for _, off := range append([]int{0, -1, c.Len, c.Len + 1, -c.Len, 2 * c.Len, -g.Seg(s)}, far...) {
				p := at(s, off, 5, 9, 2)
				tells(t, "beyond", through(chain.New(d, g, p)), none(p))
			}
		}
	}
}

func TestP14_1Segs(t *testing.T) {
	for _, c := range configs() {
		d, g, _ := followed(t, c)
		for s := range min(c.Segs, 3) {
			lay(t, d, g.Seg(s), headed(t, s, 2, 5, 9))
		}
		for _, s := range append([]int{-1, c.Segs, -2, c.Segs + 1, 64, 255, 256, 257}, far...) {
			for _, off := range []int{0, 1, 5, c.Len - 1, c.Len, -1} {
				p := at(s, off, 5, 9, 2)
				x := chain.New(d, g, p)
				stands(t, "ahead", x, p, api.OK)
				tells(t, "no segment", through(x), none(p))
			}
		}
	}
}

// The numbers of a place are held as they are, not by their lowest bytes only.
func TestP14_1FarPlaces(t *testing.T) {
	d, g := small(t)
	r := of(10, 10, 10, write(3))
	lay(t, d, g.Seg(0)+1, encoded(t, r))
	for _, n := range far {
		for _, p := range []api.Pos{at(0, 1, n, 10, 10), at(0, 1, 10, n, 10), at(0, 1, n, n, 10), at(n, 1, 10, 10, 10), at(0, n, 10, 10, 10)} {
			tells(t, "far", through(chain.New(d, g, p)), none(p))
		}
	}
}

// The first that does not follow ends it in each segment; those behind it, and those
// in later segments, are not told.
func TestP14_1Ended(t *testing.T) {
	for i := range 10 {
		l := some(t)
		p := l.places[i]
		sector := l.g.Seg(p.Seg) + p.Off
		end := p
		if p.Off > 1 {
			end = l.ends[i-1]
		}
		for _, r := range []api.Record{
			of(p.Mount-1, p.LSN, p.Prev, mark(1)), of(p.Mount, p.LSN-1, p.Prev, mark(1)), of(p.Mount, p.LSN+1, p.Prev, mark(1)),
			of(p.Mount, p.LSN, p.Prev^1, mark(1)), of(1, p.LSN, p.Prev, next(2)), of(p.Mount, p.LSN, p.Prev^2, next(2)),
		} {
			lay(t, l.d, sector, encoded(t, r))
			tells(t, "one that does not follow", through(l.whole()), l.told(0, i).to(end))
		}
		lay(t, l.d, sector, make([]byte, 64))
		tells(t, "one lost", through(l.whole()), l.told(0, i).to(end))
		if i+1 < len(l.places) {
			tells(t, "those behind it", through(chain.New(l.d, l.g, l.places[i+1])), l.told(i+1, 10))
		}
	}
}

// With any bit turned a record is none, in whichever segment it stands.
func TestP14_1BitTurned(t *testing.T) {
	l := some(t)
	c := l.whole()
	for _, i := range []int{0, 2, 4, 5, 7, 8, 9} {
		p := l.places[i]
		own := encoded(t, l.records[i])
		for bit := range 8 * len(own) {
			lay(t, l.d, l.g.Seg(p.Seg)+p.Off, turned(own, bit))
			tells(t, "a bit turned", through(c), l.told(0, i).to(p))
		}
		lay(t, l.d, l.g.Seg(p.Seg)+p.Off, own)
		tells(t, "turned back", through(c), l.all())
	}
}

// A Next behind which the log goes on is the last of its segment, be there a record
// behind it that would follow.
func TestP14_1BehindNext(t *testing.T) {
	for _, i := range []int{2, 4, 7} {
		l := some(t)
		p := behind(t, l.places[i], l.records[i])
		r := of(p.Mount, p.LSN, p.Prev, mark(99))
		lay(t, l.d, l.g.Seg(p.Seg)+p.Off, encoded(t, r))
		tells(t, "the log", through(l.whole()), l.all())
		want := seen{places: []api.Pos{p}, records: []api.Record{r}, end: behind(t, p, r)}
		tells(t, "from behind the Next", through(chain.New(l.d, l.g, p)), want)
		lay(t, l.d, l.g.Seg(l.ends[i].Seg), make([]byte, 64))
		tells(t, "no head, and no way back", through(l.whole()), l.told(0, i+1).to(l.ends[i]))
	}
}

// The Mount of a segment's last record is the least one of the head behind it, and
// that head's is the least one of the record there.
func TestP14_1Mounts(t *testing.T) {
	for _, x := range []struct{ last, head, first, told int }{
		{3, 3, 3, 2}, {3, 4, 4, 2}, {3, 4, 9, 2}, {5, 5, 5, 2}, {5, 6, maxNum, 2}, {3, 4, 3, 1}, {5, 4, 5, 1}, {5, 4, 4, 1},
		{5, 3, 3, 1}, {5, 5, 4, 1}, {maxNum, maxNum, maxNum, 2}, {maxNum, maxNum - 1, maxNum, 1}, {3, maxNum, maxNum - 1, 1},
	} {
		d, g := small(t)
		l := begun(t, d, g, 1, 3, 10, 77)
		l.jump(t, x.last, 6, next(6))
		low := l.at
		l.head(t, x.head)
		l.add(t, x.first, mark(1))
		want := l.told(0, x.told)
		switch {
		case x.head < x.last:
			want.end = low
		case x.told == 1:
			want.end = l.places[1]
		}
		tells(t, fmt.Sprint("Mounts ", x), through(l.whole()), want)
	}
}

// A log that comes back to a segment where it was: first the later part of it, then,
// behind two others, its head and the records ahead of that.
func TestP14_1ComesBack(t *testing.T) {
	d, g := small(t)
	l := &log{d: d, g: g, from: at(3, 9, 50, 6, 2), at: at(3, 9, 50, 6, 2)}
	l.add(t, 2, write(1))
	l.jump(t, 2, 4, mark(1), next(4))
	l.head(t, 2)
	l.add(t, 3, mark(2))
	l.jump(t, 3, 6, next(6))
	l.head(t, 3)
	l.jump(t, 3, 3, next(3), write(7))
	l.head(t, 4)
	l.add(t, 4, writes(5)...)
	l.add(t, 4, mark(3))
	tells(t, "up to where it began", through(l.whole()), l.all())
	is(t, "End, by hand", l.at, at(3, 8, 57, sumOf(t, l.records[6]), 4))
	l.add(t, 4, mark(3))
	tells(t, "with the sector ahead of where it began", through(l.whole()), l.all())
	is(t, "records", len(l.all().records), 8)
}

// A Next to its own segment: it goes on there, if the head fits the place behind.
func TestP14_1OwnSegment(t *testing.T) {
	for seg := range 8 {
		d, g := small(t)
		l := &log{d: d, g: g, from: at(seg, 5, 50, 6, 2), at: at(seg, 5, 50, 6, 2)}
		l.add(t, 2, write(1))
		l.jump(t, 2, seg, next(seg))
		tells(t, "no head", through(l.whole()), l.all())
		lay(t, d, g.Seg(seg), headed(t, seg, 2, 50, 6))
		tells(t, "the head of what stood there ahead", through(l.whole()), l.all())
		l.head(t, 3)
		tells(t, "a head that fits", through(l.whole()), l.all())
		l.add(t, 3, write(8))
		l.add(t, 3, mark(8))
		tells(t, "and records", through(l.whole()), l.all())
	}
}

// Nothing is read but what the log leads to: all else may be what cannot be read.
func TestP14_1NothingElseIsRead(t *testing.T) {
	l := some(t)
	var met []int
	for i, p := range l.places {
		for k := range 1 + len(l.records[i].Blocks) {
			met = append(met, l.g.Seg(p.Seg)+p.Off+k)
		}
	}
	for seg := range heads() {
		met = append(met, l.g.Seg(seg))
	}
	met = append(met, l.g.Seg(l.at.Seg)+l.at.Off)
	for sector := range l.d.Sectors() {
		l.d.Fault(sector, !slices.Contains(met, sector))
	}
	for range 2 {
		tells(t, "a log among faults", through(l.whole()), l.all())
	}
}

func TestP14_1GreatestNumbers(t *testing.T) {
	d, g := small(t)
	l := begun(t, d, g, 7, maxNum-1, maxNum-2, maxSum)
	l.jump(t, maxNum-1, 0, next(0), write(63))
	l.head(t, maxNum)
	l.add(t, maxNum, put(1), mark(maxNum))
	l.jump(t, maxNum, 7, next(7))
	is(t, "LSN behind the greatest one", l.at.LSN, maxNum+1)
	tells(t, "up to the greatest LSN", through(l.whole()), l.all())
	lay(t, d, g.Seg(7), headed(t, 7, maxNum, 1, l.at.Prev))
	lay(t, d, g.Seg(7)+1, encoded(t, of(maxNum, 1, l.at.Prev, mark(1))))
	tells(t, "no LSN comes again", through(chain.New(d, g, l.places[1])), l.told(1, 3))
}

func TestP14_1Nil(t *testing.T) {
	d, g := small(t)
	for _, p := range []api.Pos{{}, at(1, 1, 1, 1, 1), at(-1, 0, 0, 0, 0), at(8, 99, 1, 1, 1)} {
		is(t, "New of a nil disk", chain.New(nil, g, p), nil)
		is(t, "New of a nil geometry", chain.New(d, nil, p), nil)
		is(t, "New of neither", chain.New(nil, nil, p), nil)
		is(t, "New of both", chain.New(d, g, p) != nil, true)
	}
	none, e := geom.New(api.Config{Blocks: 20, Segs: 7, Len: 24})
	is(t, "geom.New", e, api.ErrArg)
	is(t, "New of what geom.New refused", chain.New(d, none, api.Pos{}), nil)
	gone, e := vdisk.New(0)
	is(t, "vdisk.New", e, api.ErrArg)
	is(t, "New of what vdisk.New refused", chain.New(gone, g, api.Pos{}), nil)
}

func TestP14_2AheadOfTheFirstTime(t *testing.T) {
	l := some(t)
	for _, p := range append(slices.Clone(l.places), l.from, at(1, 0, 9, 9, 9), at(-1, 5, 6, 7, 8), at(math.MaxInt, math.MinInt, -1, 1<<40, -9), api.Pos{}) {
		c := chain.New(l.d, l.g, p)
		stands(t, "New", c, p, api.OK)
		c.Records()
		stands(t, "not gone through", c, p, api.OK)
	}
	for sector := range l.d.Sectors() {
		l.d.Fault(sector, true)
	}
	stands(t, "New, nothing can be read", l.whole(), l.from, api.OK)
	l.d.Fuse(0)
	l.d.Flush()
	stands(t, "New, off", l.whole(), l.from, api.OK)
}

// Behind none, one, some and all records.
func TestP14_2End(t *testing.T) {
	for n := range 6 {
		d, g := small(t)
		l := begun(t, d, g, 2, 3, 10, 77)
		for k := range n {
			if k == 3 {
				l.jump(t, 3+k, 4, next(4))
				l.head(t, 7)
				continue
			}
			l.add(t, 3+k, sized(k+1)...)
		}
		tells(t, "behind all", through(l.whole()), l.all())
		first := chain.New(d, g, at(2, 1, 10, 77, 3))
		tells(t, "behind all, from Off 1 on", through(first), l.all())
		for _, p := range []api.Pos{at(2, 1, 10, 78, 3), at(3, 0, 10, 77, 3), at(2, 1, 9, 77, 3), at(2, 1, 10, 77, 9)} {
			tells(t, "behind none", through(chain.New(d, g, p)), none(p))
		}
		if n == 0 {
			tells(t, "a head alone", through(l.whole()), none(at(2, 1, 10, 77, 3)))
			tells(t, "a head alone, of a place of a Mount below", through(chain.New(d, g, at(2, 0, 10, 77, -3))), none(at(2, 1, 10, 77, 3)))
			tells(t, "a head alone, of a place of a Mount above", through(chain.New(d, g, at(2, 0, 10, 77, 4))), none(at(2, 0, 10, 77, 4)))
		}
	}
}

// Behind a Next a head with no record counts: Off 1, its Mount.
func TestP14_2HeadAlone(t *testing.T) {
	for seg := range 8 {
		if seg == 2 {
			continue
		}
		for _, mount := range []int{3, 4, maxNum} {
			d, g := small(t)
			l := begun(t, d, g, 2, 3, 10, 77)
			l.jump(t, 3, seg, next(seg))
			l.head(t, mount)
			want := at(seg, 1, 11, sumOf(t, l.records[0]), mount)
			tells(t, "a head alone", through(l.whole()), l.all().to(want))
			tells(t, "stopped ahead of it", stopped(l.whole(), 1), l.all().to(at(seg, 0, 11, want.Prev, 3)))
			lay(t, d, g.Seg(seg)+1, block(3))
			tells(t, "a head, and what is no record", through(l.whole()), l.all().to(want))
		}
	}
}

// Stopped behind each record, just behind a Next among them, and behind the last one.
func TestP14_2StoppedAndAgain(t *testing.T) {
	l := some(t)
	for i, p := range l.places {
		rest := len(l.places) - i
		c := chain.New(l.d, l.g, p)
		for n := 1; n <= rest+1; n++ {
			want := l.told(i, min(i+n, len(l.places)))
			tells(t, "stopped", stopped(c, n), want)
			tells(t, "again", through(c), l.told(i, len(l.places)))
			tells(t, "stopped again", stopped(c, n), want)
			tells(t, "stopped behind the first", stopped(c, 1), l.told(i, i+1))
		}
	}
	c := l.whole()
	is(t, "stopped behind the first Next", stopped(c, 3).end, at(5, 0, 13, sumOf(t, l.records[2]), 4))
	is(t, "stopped ahead of it", stopped(c, 2).end, at(1, 4, 12, sumOf(t, l.records[1]), 4))
	is(t, "stopped behind it", stopped(c, 4).end, at(5, 8, 14, sumOf(t, l.records[3]), 6))
	is(t, "stopped behind the second Next", stopped(c, 5).end, at(0, 0, 15, sumOf(t, l.records[4]), 6))
	is(t, "stopped behind the last one", stopped(c, 10).end, at(7, 4, 20, sumOf(t, l.records[9]), 10))
}

// One call of Records may be gone through again as well as two of them.
func TestP14_2OneCallAgain(t *testing.T) {
	l := some(t)
	c := l.whole()
	walk := c.Records()
	for n := range 11 {
		var offs []int
		for p := range walk {
			if offs = append(offs, p.LSN); len(offs) == n {
				break
			}
		}
		want := l.all()
		if n > 0 {
			want = l.told(0, n)
		}
		is(t, "records", len(offs), len(want.records))
		is(t, "the first one", offs[0], 10)
		stands(t, "behind it", c, want.end, api.OK)
	}
}

// A walk that is stopped asks for nothing more, also just behind a Next.
func TestP14_2StoppedForGood(t *testing.T) {
	l := some(t)
	for last := range 10 {
		c, n := l.whole(), 0
		c.Records()(func(api.Pos, api.Record) bool {
			n++
			return n <= last
		})
		is(t, "calls of yield", n, last+1)
		stands(t, "behind it", c, l.told(0, last+1).end, api.OK)
	}
}

// Stopped just behind a Next nothing of the next segment was read.
func TestP14_2StoppedAheadOfFault(t *testing.T) {
	l := some(t)
	for _, i := range []int{2, 4, 7} {
		sector := l.g.Seg(l.ends[i].Seg)
		l.d.Fault(sector, true)
		c := l.whole()
		tells(t, "stopped", stopped(c, i+1), l.told(0, i+1))
		tells(t, "not stopped", through(c), l.told(0, i+1).failed(api.ErrRead))
		tells(t, "stopped again", stopped(c, i+1), l.told(0, i+1))
		l.d.Fault(sector, false)
	}
}

// In the midst End is the place behind the record that has just been told.
func TestP14_2InTheMidst(t *testing.T) {
	l := some(t)
	c := l.whole()
	for range 2 {
		i := 0
		for range c.Records() {
			i++
			stands(t, "in the midst", c, l.ends[i-1], api.OK)
		}
		is(t, "records", i, 10)
	}
}

func TestP14_2StoppedByPanic(t *testing.T) {
	l := some(t)
	c := l.whole()
	for i := range 10 {
		func() {
			defer func() { recover() }()
			for p := range c.Records() {
				if p == l.places[i] {
					panic("enough")
				}
			}
		}()
		stands(t, "behind a panic of the loop", c, l.ends[i], api.OK)
		tells(t, "again", through(c), l.all())
	}
}

func TestP14_2TurnedBetween(t *testing.T) {
	l := some(t)
	c := l.whole()
	tells(t, "some", through(c), l.all())
	l.add(t, 10, mark(9))
	tells(t, "one more", through(c), l.all())
	l.jump(t, 10, 2, next(2))
	tells(t, "a Next more", through(c), l.all())
	l.head(t, 10)
	tells(t, "a head more", through(c), l.all())
	l.add(t, 11, sized(4)...)
	tells(t, "a record more there", through(c), l.all())
	lay(t, l.d, l.g.Seg(0), make([]byte, 64))
	tells(t, "a head lost", through(c), l.told(0, 5))
	lay(t, l.d, l.g.Seg(0), headed(t, 0, 6, 15, l.places[5].Prev))
	l.places[5].Mount = 6
	tells(t, "a head of another Mount", through(c), l.all())
	p := l.places[4]
	other := of(6, 14, p.Prev, next(3))
	lay(t, l.d, l.g.Seg(5)+8, encoded(t, other))
	sum := sumOf(t, other)
	want := seen{places: l.places[:5], records: append(slices.Clone(l.records[:4]), other), end: at(3, 0, 15, sum, 6)}
	tells(t, "another Next in its place", through(c), want)
	lay(t, l.d, l.g.Seg(3), headed(t, 3, 8, 15, sum))
	tells(t, "a head there", through(c), want.to(at(3, 1, 15, sum, 8)))
	lay(t, l.d, l.g.Seg(5)+8, encoded(t, l.records[4]))
	tells(t, "as it was", through(c), l.all())
}

// What is written in the midst, ahead of where a walk has come to, is read; a Next
// among it.
func TestP14_2TurnedInTheMidst(t *testing.T) {
	l := some(t)
	c := l.whole()
	n := 0
	for p := range c.Records() {
		if n++; n == 2 {
			l.jump(t, 10, 3, write(1), next(3))
			l.head(t, 12)
			l.add(t, 12, mark(5))
		}
		lay(t, l.d, l.g.Seg(p.Seg), make([]byte, 64))
	}
	is(t, "records", n, 12)
	stands(t, "behind it", c, l.at, api.OK)
	tells(t, "its own head lost", through(c), none(l.from))
}

// spoil turns all that a record has.
func spoil(r api.Record) {
	for k := range r.Items {
		r.Items[k] = api.Item{Kind: 99, Block: -1}
	}
	for k := range r.Blocks {
		clear(r.Blocks[k])
		_ = append(r.Blocks[k], 1, 2, 3)
		r.Blocks[k] = nil
	}
	_, _ = append(r.Items, mark(1)), append(r.Blocks, nil)
}

func TestP14_2WhatIsToldTurned(t *testing.T) {
	l := some(t)
	c := l.whole()
	n := 0
	for _, r := range c.Records() {
		spoil(r)
		n++
	}
	is(t, "records", n, 10)
	stands(t, "behind it", c, l.at, api.OK)
	kept := through(c)
	for _, r := range through(c).records {
		spoil(r)
	}
	tells(t, "told ahead", kept, l.all())
}

// Where the log goes on is as it stands on the disk, not as the loop leaves it.
func TestP14_2NextTurned(t *testing.T) {
	l := some(t)
	c := l.whole()
	for _, seg := range []int{0, 2, 7, 8, 31, -1, 1 << 40} {
		n := 0
		for _, r := range c.Records() {
			for k := range r.Items {
				r.Items[k] = next(seg)
			}
			n++
		}
		is(t, "records, each turned into a Next", n, 10)
		stands(t, "behind it", c, l.at, api.OK)
		for i := range 10 {
			n = 0
			for _, r := range c.Records() {
				r.Items[0] = next(seg)
				if n++; n > i {
					break
				}
			}
			stands(t, "stopped", c, l.ends[i], api.OK)
		}
	}
}

// reads is how many records are told ahead of a fault in a sector, and where it
// ends; false, if no walk from the log's beginning meets that sector.
func (l *log) reads(sector int) (seen, bool) {
	for i, p := range l.places {
		first := l.g.Seg(p.Seg) + p.Off
		switch {
		case p.Off == 1 && sector == first-1:
			return l.upToHead(i), true
		case sector >= first && sector <= first+len(l.records[i].Blocks):
			return l.told(0, i).to(p), true
		}
	}
	return l.all(), sector == l.g.Seg(l.at.Seg)+l.at.Off
}

// A fault in each sector of the disk: at a head, at a summary, in a block, behind the
// last record, and anywhere else.
func TestP14_2Faults(t *testing.T) {
	l := some(t)
	c := l.whole()
	n := 0
	for sector := range l.d.Sectors() {
		l.d.Fault(sector, true)
		want, met := l.reads(sector)
		if met {
			n++
			want = want.failed(api.ErrRead)
		}
		tells(t, fmt.Sprint("sector ", sector), through(c), want)
		l.d.Fault(sector, false)
		tells(t, "no fault", through(c), l.all())
	}
	is(t, "sectors that are met", n, 4+23+1)
}

// Which sectors are met, by hand: segment 1 begins at 38, 5 at 134, 0 at 14, 7 at 182.
func TestP14_2FaultsByHand(t *testing.T) {
	l := some(t)
	for _, x := range []struct{ sector, told, seg, off int }{
		{38, 0, 1, 0}, {39, 0, 1, 1}, {40, 0, 1, 1}, {41, 1, 1, 3}, {42, 2, 1, 4}, {44, 2, 1, 4},
		{134, 3, 5, 0}, {135, 3, 5, 1}, {141, 3, 5, 1}, {142, 4, 5, 8}, {14, 5, 0, 0}, {16, 5, 0, 1}, {17, 6, 0, 3},
		{18, 7, 0, 4}, {20, 7, 0, 4}, {182, 8, 7, 0}, {183, 8, 7, 1}, {185, 9, 7, 3}, {186, 10, 7, 4},
	} {
		l.d.Fault(x.sector, true)
		got := through(l.whole())
		l.d.Fault(x.sector, false)
		is(t, fmt.Sprint("records, sector ", x.sector), len(got.records), x.told)
		is(t, "Seg", got.end.Seg, x.seg)
		is(t, "Off", got.end.Off, x.off)
		is(t, "LSN", got.end.LSN, 10+x.told)
		is(t, "Err", got.err, api.ErrRead)
	}
}

// Each time that it is gone through makes Err and End anew.
func TestP14_2ErrAnew(t *testing.T) {
	l := some(t)
	c := l.whole()
	for i, p := range l.places {
		sector := l.g.Seg(p.Seg) + p.Off
		l.d.Fault(sector, true)
		want := l.told(0, i).to(p).failed(api.ErrRead)
		tells(t, "a fault", through(c), want)
		for n := 1; n <= i; n++ {
			tells(t, "stopped ahead of the fault", stopped(c, n), l.told(0, n).to(l.ends[n-1]))
			tells(t, "the fault again", through(c), want)
		}
		c.Records()
		stands(t, "not gone through", c, p, api.ErrRead)
		l.d.Fault(sector, false)
		stands(t, "not gone through, the fault gone", c, p, api.ErrRead)
		for range c.Records() {
			is(t, "Err in the midst", c.Err(), api.OK)
		}
		stands(t, "gone through", c, l.at, api.OK)
	}
}

// A head that cannot be read is none that counts; one that can does, though what is
// behind it cannot be read.
func TestP14_2FaultBehindHead(t *testing.T) {
	for seg, i := range heads() {
		l := some(t)
		c := l.whole()
		l.d.Fault(l.g.Seg(seg)+1, true)
		tells(t, "the record", through(c), l.upToHead(i).to(l.places[i]).failed(api.ErrRead))
		l.d.Fault(l.g.Seg(seg), true)
		tells(t, "the head, too", through(c), l.upToHead(i).failed(api.ErrRead))
		l.d.Fault(l.g.Seg(seg)+1, false)
		tells(t, "the head", through(c), l.upToHead(i).failed(api.ErrRead))
		lay(t, l.d, l.g.Seg(seg)+1, make([]byte, 64))
		l.d.Fault(l.g.Seg(seg), false)
		tells(t, "the head alone", through(c), l.upToHead(i).to(l.places[i]))
	}
}

func TestP14_2Off(t *testing.T) {
	l := some(t)
	c := l.whole()
	tells(t, "with power", through(c), l.all())
	l.d.Fuse(0)
	is(t, "Flush", l.d.Flush(), api.ErrOff)
	for range 2 {
		tells(t, "from Off 0 on", through(c), none(l.from).failed(api.ErrOff))
	}
	for _, p := range append(slices.Clone(l.places), l.at) {
		tells(t, "from a record's place", through(chain.New(l.d, l.g, p)), none(p).failed(api.ErrOff))
	}
	for _, p := range []api.Pos{at(9, 0, 10, 77, 3), at(-1, 1, 10, 77, 3), at(1, 24, 10, 77, 3), at(1, -1, 10, 77, 3)} {
		tells(t, "nothing is read where nothing can be", through(chain.New(l.d, l.g, p)), none(p))
	}
}

// The power goes in the midst: the next read ends it, that of a head, too.
func TestP14_2OffInTheMidst(t *testing.T) {
	for i := range 10 {
		l := some(t)
		c := l.whole()
		n := 0
		for range c.Records() {
			if n++; n == i+1 {
				l.d.Fuse(0)
				l.d.Flush()
			}
		}
		is(t, "records", n, i+1)
		stands(t, "the power went", c, l.ends[i], api.ErrOff)
		tells(t, "once more", through(c), none(l.from).failed(api.ErrOff))
	}
}

// Segments beyond a disk's last sector cannot be read.
func TestP14_2SmallDisk(t *testing.T) {
	_, g := small(t)
	for _, n := range []int{14, 38, 39, 40, 134, 135, 136} {
		d, e := vdisk.New(n)
		is(t, "vdisk.New", e, api.OK)
		r := of(3, 10, 77, next(5))
		b := slices.Concat(headed(t, 1, 3, 10, 77), encoded(t, r))
		lay(t, d, min(38, n), b[:64*max(0, min(2, n-38))])
		sum := sumOf(t, r)
		if n > 134 {
			lay(t, d, 134, headed(t, 5, 3, 11, sum))
		}
		p := at(1, 0, 10, 77, 3)
		want := seen{places: []api.Pos{at(1, 1, 10, 77, 3)}, records: []api.Record{r}}
		switch n {
		case 14, 38:
			want = none(p).failed(api.ErrArg)
		case 39:
			want = none(at(1, 1, 10, 77, 3)).failed(api.ErrArg)
		case 40, 134:
			want = want.to(at(5, 0, 11, sum, 3)).failed(api.ErrArg)
		case 135:
			want = want.to(at(5, 1, 11, sum, 3)).failed(api.ErrArg)
		case 136:
			want = want.to(at(5, 1, 11, sum, 3))
		}
		tells(t, fmt.Sprint("a disk of ", n), through(chain.New(d, g, p)), want)
	}
}

// Walks of one Chain within each other do not meet: behind each of them End and Err
// are its own.
func TestP14_2WithinAnother(t *testing.T) {
	l := some(t)
	c := l.whole()
	for outer := 1; outer <= 11; outer++ {
		for inner := range 11 {
			n := 0
			for p := range c.Records() {
				is(t, "place of the outer one", p, l.places[n])
				n++
				want := l.all()
				if inner > 0 {
					want = l.told(0, inner)
				}
				tells(t, "the inner one", stopped(c, inner), want)
				if n == outer {
					break
				}
			}
			stands(t, "the outer one", c, l.told(0, min(outer, 10)).end, api.OK)
		}
	}
}

// The inner one's error is not the outer one's.
func TestP14_2ErrWithinAnother(t *testing.T) {
	l := some(t)
	c := l.whole()
	for _, sector := range []int{l.g.Seg(5), l.g.Seg(5) + 1} {
		for last := 1; last <= 11; last++ {
			n := 0
			for range c.Records() {
				n++
				l.d.Fault(sector, true)
				is(t, "the inner one", through(c).err, api.ErrRead)
				l.d.Fault(sector, false)
				if n == last {
					break
				}
			}
			stands(t, "the outer one", c, l.told(0, min(last, 10)).end, api.OK)
		}
	}
}

// Two Chains of one disk have nothing in common, and two walks go on side by side.
func TestP14_2SideBySide(t *testing.T) {
	l := some(t)
	a := l.whole()
	for _, b := range []*chain.Chain{l.whole(), chain.New(l.d, l.g, l.places[0]), a} {
		nextA, stopA := iter.Pull2(a.Records())
		nextB, stopB := iter.Pull2(b.Records())
		for i := range 11 {
			pA, rA, okA := nextA()
			pB, rB, okB := nextB()
			is(t, "told", okA && okB, i < 10)
			is(t, "like ones", fmt.Sprint(pA, rA, okA), fmt.Sprint(pB, rB, okB))
		}
		stands(t, "the second one", b, l.at, api.OK)
		stands(t, "the first one", a, l.at, api.OK)
		stopA()
		stopB()
	}
	other := chain.New(l.d, l.g, l.places[4])
	through(a)
	stands(t, "the other one", other, l.places[4], api.OK)
	stopped(other, 1)
	stands(t, "the first one", a, l.at, api.OK)
}

// Going through turns nothing of the disk.
func TestP14_2DiskStays(t *testing.T) {
	l := some(t)
	l.d.Fuse(3)
	acts, held := l.d.Acts(), l.d.Held()
	sectors := func() (out string) {
		for sector := range l.d.Sectors() {
			b, _ := l.d.Read(sector)
			out += string(b)
		}
		return out
	}
	ahead := sectors()
	for i, p := range l.places {
		stopped(chain.New(l.d, l.g, p), i%3)
	}
	through(l.whole())
	is(t, "Acts", l.d.Acts(), acts)
	is(t, "Held", l.d.Held(), held)
	is(t, "Off", l.d.Off(), false)
	is(t, "sectors", sectors() == ahead, true)
}

func TestP14_2Nil(t *testing.T) {
	_, g := small(t)
	for _, c := range []*chain.Chain{nil, chain.New(nil, g, api.Pos{Seg: 1})} {
		for range 2 {
			stands(t, "nil", c, api.Pos{}, api.ErrArg)
			tells(t, "nil", through(c), seen{err: api.ErrArg})
			tells(t, "nil", stopped(c, 1), seen{err: api.ErrArg})
		}
		walk := c.Records()
		for range 2 {
			for range walk {
				t.Error("a nil Chain tells a record")
			}
		}
	}
}

// What was never made is empty, and panics nowhere.
func TestP14_2Unmade(t *testing.T) {
	d, g := small(t)
	is(t, "a Chain", len(through(new(chain.Chain)).records), 0)
	p := at(0, 1, 1, 1, 1)
	tells(t, "an unmade geometry", through(chain.New(d, new(geom.Geom), p)), none(p))
	is(t, "an unmade disk", len(through(chain.New(new(vdisk.Disk), g, p)).records), 0)
}

// rising fails unless each record's LSN is one more than the last one's, from the
// first place's on, and each goes where the place says that comes with it.
func rising(t *testing.T, what string, d *vdisk.Disk, g *geom.Geom, p api.Pos, s seen) {
	t.Helper()
	for i, q := range s.places {
		r := s.records[i]
		is(t, what+": LSN", r.LSN, p.LSN+i)
		is(t, what+": LSN of the place", q.LSN, r.LSN)
		is(t, what+": Prev of the place", q.Prev, r.Prev)
		is(t, what+": a Mount that is not above the record's", q.Mount <= r.Mount, true)
		own := encoded(t, r)
		for k := range len(own) / 64 {
			b, e := d.Read(g.Seg(q.Seg) + q.Off + k)
			is(t, what+": Read", e, api.OK)
			is(t, what+": what stands there", bytes.Equal(b, own[64*k:64*k+64]), true)
		}
	}
	is(t, what+": LSN behind them", s.end.LSN, p.LSN+len(s.records))
}

// Each segment's first record is a Next to another one, round and round; each head
// fits but that of the segment where it began, which is of what stood there first.
func TestP14_3Round(t *testing.T) {
	for _, c := range configs() {
		for _, step := range []int{1, c.Segs - 1} {
			d, g := device(t, c)
			l := begun(t, d, g, 0, 1, 1, 0)
			for i := 1; i <= c.Segs; i++ {
				seg := i * step % c.Segs
				l.jump(t, 1, seg, next(seg))
				if seg != 0 {
					l.head(t, 1)
				}
			}
			got := through(l.whole())
			tells(t, "once round", got, l.all())
			is(t, "records", len(got.records), c.Segs)
			rising(t, "once round", d, g, l.from, got)
		}
	}
}

// Round and round through two segments, up to where no record is left.
func TestP14_3RoundAndRound(t *testing.T) {
	d, g := small(t)
	l := &log{d: d, g: g, from: at(2, 12, 7, 5, 1), at: at(2, 12, 7, 5, 1)}
	l.jump(t, 1, 3, next(3))
	l.head(t, 1)
	l.add(t, 1, mark(1))
	l.jump(t, 1, 2, next(2))
	l.head(t, 2)
	l.add(t, 2, mark(1))
	l.jump(t, 2, 3, next(3))
	got := through(l.whole())
	tells(t, "twice in one segment, once in the other", got, l.all())
	is(t, "records", len(got.records), 5)
	rising(t, "round and round", d, g, l.from, got)
}

// From within one segment through all the others and back to its head: one segment
// more than the device has, and no way on.
func TestP14_3AllAndBack(t *testing.T) {
	for _, c := range configs() {
		for _, s := range []int{0, 1, c.Segs - 1} {
			d, g := device(t, c)
			l := &log{d: d, g: g, from: at(s, 12, 7, 5, 1), at: at(s, 12, 7, 5, 1)}
			for i := 1; i <= c.Segs; i++ {
				l.jump(t, 1, (s+i)%c.Segs, write(1), next((s+i)%c.Segs))
				l.head(t, 1)
			}
			l.add(t, 1, writes(6)...)
			l.jump(t, 1, (s+1)%c.Segs, next((s+1)%c.Segs))
			got := through(l.whole())
			tells(t, "through all and back", got, l.all())
			is(t, "records", len(got.records), c.Segs+2)
			rising(t, "through all and back", d, g, l.from, got)
		}
	}
}

// A Next to its own segment, whose head and record are the very ones that led there.
func TestP14_3OwnSegment(t *testing.T) {
	for _, c := range configs() {
		for seg := range c.Segs {
			d, g := device(t, c)
			l := begun(t, d, g, seg, 1, 1, 0)
			l.jump(t, 1, seg, next(seg))
			got := through(l.whole())
			tells(t, "its own segment", got, l.all())
			rising(t, "its own segment", d, g, l.from, got)
		}
	}
}

// Behind the greatest LSN there is none, whatever heads and records stand there.
func TestP14_3GreatestLSN(t *testing.T) {
	for _, lsn := range []int{maxNum - 3, maxNum - 2, maxNum - 1, maxNum} {
		d, g := small(t)
		l := begun(t, d, g, 0, 1, lsn, 0)
		for l.at.LSN <= maxNum {
			if l.at.Off == 0 {
				l.head(t, 1)
			}
			seg := (l.at.Seg + 3) % 8
			l.jump(t, 1, seg, next(seg))
		}
		for _, again := range []int{1, lsn, maxNum} {
			lay(t, d, g.Seg(l.at.Seg), headed(t, l.at.Seg, 1, again, l.at.Prev))
			lay(t, d, g.Seg(l.at.Seg)+1, encoded(t, of(1, again, l.at.Prev, next(0))))
			got := through(l.whole())
			tells(t, "the greatest LSN", got, l.all())
			rising(t, "the greatest LSN", d, g, l.from, got)
		}
	}
}

// byHand is what a walk tells: at each place whatever number of sectors there is a
// record, without a look at its summary, and from segment to segment.
func byHand(t *testing.T, d *vdisk.Disk, g *geom.Geom, p api.Pos) seen {
	t.Helper()
	out := none(p)
	for {
		if out.end.Off == 0 {
			b, _ := d.Read(g.Seg(out.end.Seg))
			h, e := head.Decode(b)
			if e != api.OK || h.Seg != out.end.Seg || h.LSN != out.end.LSN || h.Prev != out.end.Prev || h.Mount < out.end.Mount {
				return out
			}
			out.end = at(h.Seg, 1, h.LSN, h.Prev, h.Mount)
		}
		var found *api.Record
		var b []byte
		for n := out.end.Off; n < g.Config().Len && found == nil; n++ {
			more, _ := d.Read(g.Seg(out.end.Seg) + n)
			b = append(b, more...)
			if r, _, e := record.Decode(b); e == api.OK {
				found = &r
			}
		}
		if found == nil || found.LSN != out.end.LSN || found.Prev != out.end.Prev || found.Mount < out.end.Mount {
			return out
		}
		out.places, out.records = append(out.places, out.end), append(out.records, *found)
		out.end = behind(t, out.end, *found)
		for _, i := range found.Items {
			if i.Kind != api.Next {
				continue
			}
			if i.Value >= g.Config().Segs {
				return out
			}
			out.end.Seg, out.end.Off = i.Value, 0
			break
		}
	}
}

// rule picks numbers, always the same ones.
type rule uint32

func (r *rule) pick(below int) int {
	*r = *r*1664525 + 1013904223
	return int(*r>>8) % below
}

// wild lays a log from segment to segment, over what stands there already, some of
// whose heads and records do not follow; it answers the places that they went to.
func wild(t *testing.T, r *rule, d *vdisk.Disk, g *geom.Geom) []api.Pos {
	t.Helper()
	c := g.Config()
	l := begun(t, d, g, r.pick(c.Segs), 1+r.pick(3), 1+r.pick(3), r.pick(2))
	places := []api.Pos{l.from}
	for range 60 {
		items := sized(1 + r.pick(7))
		if l.at.Off+8 > c.Len || r.pick(5) == 0 {
			items = append(items[:min(5, len(items))], next(r.pick(c.Segs)))
			if r.pick(25) == 0 {
				items = append([]api.Item{next(r.pick(32))}, items[:min(5, len(items))]...)
			}
		}
		if l.at.Off+1+len(items) > c.Len {
			break
		}
		places = append(places, l.at)
		l.add(t, l.at.Mount+r.pick(8)/7, items...)
		k := slices.IndexFunc(items, func(i api.Item) bool { return i.Kind == api.Next })
		if k >= 0 && items[k].Value < c.Segs {
			l.at.Seg, l.at.Off = items[k].Value, 0
			places = append(places, l.at)
			l.head(t, l.at.Mount+r.pick(8)/7)
		}
		switch r.pick(120) {
		case 0:
			l.at.Mount = max(1, l.at.Mount-1)
		case 1:
			l.at.LSN++
		case 2:
			l.at.Prev ^= 1
		}
	}
	return append(places, l.at)
}

// Whatever stands on a disk is told as it is found by hand, and it ends.
func TestP14_3Wild(t *testing.T) {
	r := rule(14)
	told, segs := 0, 0
	for k := range 40 {
		d, g := device(t, configs()[k%len(configs())])
		var places []api.Pos
		for range 1 + k%4 {
			places = append(places, wild(t, &r, d, g)...)
		}
		for _, p := range places {
			c := chain.New(d, g, p)
			got := through(c)
			tells(t, "beside what is found by hand", got, byHand(t, d, g, p))
			rising(t, "wild", d, g, p, got)
			tells(t, "again", through(c), got)
			told = max(told, len(got.records))
			segs = max(segs, jumps(got))
		}
	}
	is(t, "a log of 30 records at least", told >= 30, true)
	is(t, "a log of 8 segments at least", segs >= 8, true)
}

// jumps is how often a walk went on in another segment.
func jumps(s seen) int {
	n := 0
	for i := 1; i < len(s.places); i++ {
		if s.places[i].Seg != s.places[i-1].Seg {
			n++
		}
	}
	return n
}
