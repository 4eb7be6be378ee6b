package scan_test

import (
	"bytes"
	"fmt"
	"hash/crc32"
	"iter"
	"math"
	"slices"
	"testing"

	"keelson/api"
	"keelson/geom"
	"keelson/head"
	"keelson/record"
	"keelson/scan"
	"keelson/vdisk"
)

const (
	maxNum = 1<<31 - 1
	maxSum = 1<<32 - 1
)

// beyond is how many sectors the disks here have behind the last segment: what
// stands there is in no segment.
const beyond = 10

// far is what no number of a record, a head or a segment is; some of it is one, if
// only its lowest one or four bytes are looked at.
var far = []int{
	-1, -2, -255, -256, -1 << 31, -1<<31 + 1, -1<<32 + 1, -1<<32 + 10, -1 << 32, 1 << 31, 1<<31 + 1, 1<<32 + 1, 1<<32 + 10,
	1 << 33, 1<<40 + 1, math.MaxInt, math.MaxInt - 1, math.MinInt, math.MinInt + 1, math.MinInt + 10,
}

// configs are some with each number at its least and its greatest, and between;
// the chapter's own first.
func configs() []api.Config {
	return []api.Config{
		{Blocks: 20, Segs: 8, Len: 24}, {Blocks: 1, Segs: 8, Len: 64}, {Blocks: 64, Segs: 32, Len: 24},
		{Blocks: 64, Segs: 32, Len: 64}, {Blocks: 15, Segs: 9, Len: 25}, {Blocks: 31, Segs: 17, Len: 40},
	}
}

func write(block int) api.Item      { return api.Item{Kind: api.Write, Block: block} }
func trim(block, n int) api.Item    { return api.Item{Kind: api.Trim, Block: block, Count: n} }
func mark(epoch int) api.Item       { return api.Item{Kind: api.Mark, Value: epoch} }
func move(block, from int) api.Item { return api.Item{Kind: api.Move, Block: block, Value: from} }
func put(block int) api.Item        { return api.Item{Kind: api.Put, Block: block} }
func drop(block, n int) api.Item    { return api.Item{Kind: api.Drop, Block: block, Count: n} }
func next(seg int) api.Item         { return api.Item{Kind: api.Next, Value: seg} }

// writes are so many Writes.
func writes(n int) []api.Item {
	var l []api.Item
	for b := range n {
		l = append(l, write(b))
	}
	return l
}

// sized are items of a record of so many sectors, 1 to 7.
func sized(n int) []api.Item {
	if n == 1 {
		return []api.Item{mark(3)}
	}
	return writes(n - 1)
}

// block is 64 bytes, all of them others than those of another seed.
func block(seed int) []byte {
	b := make([]byte, 64)
	for i := range b {
		b[i] = byte(seed + 7*i)
	}
	return b
}

// of is a record of these items, with the blocks that they have, at these numbers.
func of(mount, lsn, prev int, l ...api.Item) api.Record {
	r := api.Record{Mount: mount, LSN: lsn, Prev: prev, Items: l}
	for k, i := range l {
		if i.Kind == api.Write || i.Kind == api.Move || i.Kind == api.Put {
			r.Blocks = append(r.Blocks, block(37*k+11*lsn))
		}
	}
	return r
}

// at is a place.
func at(seg, off, lsn, prev, mount int) api.Pos {
	return api.Pos{Seg: seg, Off: off, LSN: lsn, Prev: prev, Mount: mount}
}

// device is an empty disk of a geometry, with some room beyond.
func device(t *testing.T, c api.Config) (*vdisk.Disk, *geom.Geom) {
	t.Helper()
	g, e := geom.New(c)
	is(t, "geom.New", e, api.OK)
	d, e := vdisk.New(min(g.Sectors()+beyond, api.MaxSectors))
	is(t, "vdisk.New", e, api.OK)
	return d, g
}

// small is an empty disk of the chapter's geometry, whose segments of 24 sectors
// begin at sector 14.
func small(t *testing.T) (*vdisk.Disk, *geom.Geom) {
	t.Helper()
	return device(t, configs()[0])
}

// lay writes bytes, sector by sector.
func lay(t *testing.T, d *vdisk.Disk, sector int, b []byte) {
	t.Helper()
	for i, part := range slices.Collect(slices.Chunk(b, 64)) {
		is(t, "Write", d.Write(sector+i, part), api.OK)
	}
}

// encoded is the bytes of a record.
func encoded(t *testing.T, r api.Record) []byte {
	t.Helper()
	b, _, e := record.Encode(r)
	is(t, "record.Encode", e, api.OK)
	return b
}

// headed is the bytes of a head.
func headed(t *testing.T, seg, mount, lsn, prev int) []byte {
	t.Helper()
	b, e := head.Encode(api.Head{Seg: seg, Mount: mount, LSN: lsn, Prev: prev})
	is(t, "head.Encode", e, api.OK)
	return b
}

// castagnoli is a sum of bytes, made beside the program.
func castagnoli(l ...[]byte) int {
	return int(crc32.Checksum(bytes.Join(l, nil), crc32.MakeTable(crc32.Castagnoli)))
}

// sumOf is a record's sum, made beside the program.
func sumOf(t *testing.T, r api.Record) int {
	t.Helper()
	b := encoded(t, r)
	return castagnoli(b[:60], b[64:])
}

// withSum is a record's bytes with a sum that holds.
func withSum(b []byte) []byte {
	sum := castagnoli(b[:60], b[64:])
	copy(b[60:64], []byte{byte(sum), byte(sum >> 8), byte(sum >> 16), byte(sum >> 24)})
	return b
}

// behind is the place behind a record that follows a place.
func behind(t *testing.T, p api.Pos, r api.Record) api.Pos {
	t.Helper()
	return at(p.Seg, p.Off+1+len(r.Blocks), p.LSN+1, sumOf(t, r), r.Mount)
}

// log is a segment's records, one behind the other, kept by hand beside the disk.
type log struct {
	d       *vdisk.Disk
	g       *geom.Geom
	places  []api.Pos // that the records follow
	records []api.Record
	at      api.Pos // behind them
}

// begun is a log without records, behind a head that stands on the disk.
func begun(t *testing.T, d *vdisk.Disk, g *geom.Geom, seg, mount, lsn, prev int) *log {
	t.Helper()
	lay(t, d, g.Seg(seg), headed(t, seg, mount, lsn, prev))
	return &log{d: d, g: g, at: at(seg, 1, lsn, prev, mount)}
}

// add lays a record behind the others.
func (l *log) add(t *testing.T, mount int, items ...api.Item) {
	t.Helper()
	r := of(mount, l.at.LSN, l.at.Prev, items...)
	lay(t, l.d, l.g.Seg(l.at.Seg)+l.at.Off, encoded(t, r))
	l.places, l.records = append(l.places, l.at), append(l.records, r)
	l.at = behind(t, l.at, r)
}

// some is a segment with a head at LSN 10 and Mount 3, and records of 2, 1, 7 and 3
// sectors, of Mounts 3, 4, 4 and 6.
func some(t *testing.T) *log {
	t.Helper()
	d, g := small(t)
	l := begun(t, d, g, 1, 3, 10, 77)
	l.add(t, 3, write(2), mark(1))
	l.add(t, 4, trim(1, 2))
	l.add(t, 4, writes(6)...)
	l.add(t, 6, put(3), drop(0, 64), move(1, 300))
	return l
}

// seen is what one walk told, and what was told behind it.
type seen struct {
	offs    []int
	records []api.Record
	end     api.Pos
	err     api.Errno
}

// told is the records i to j - 1 of a log.
func (l *log) told(i, j int) seen {
	s := seen{records: l.records[i:j], end: l.at}
	for _, p := range l.places[i:j] {
		s.offs = append(s.offs, p.Off)
	}
	if j < len(l.places) {
		s.end = l.places[j]
	}
	return s
}

// none is a walk that tells nothing, and stays at a place.
func none(p api.Pos) seen {
	return seen{end: p}
}

// failed is a walk that an error ended.
func (s seen) failed(e api.Errno) seen {
	s.err = e
	return s
}

// stopped goes through, and stops behind the n-th record.
func stopped(s *scan.Scan, n int) seen {
	out := seen{}
	for off, r := range s.Records() {
		out.offs, out.records = append(out.offs, off), append(out.records, r)
		if len(out.offs) == n {
			break
		}
	}
	out.end, out.err = s.End(), s.Err()
	return out
}

// through goes through all.
func through(s *scan.Scan) seen {
	return stopped(s, 0)
}

// is fails unless a call answered that.
func is[T comparable](t *testing.T, what string, got, want T) {
	t.Helper()
	if got != want {
		t.Errorf("%s: got %v, want %v", what, got, want)
	}
}

// tells fails unless a walk told that: a nil list and an empty one are the same.
func tells(t *testing.T, what string, got, want seen) {
	t.Helper()
	if g, w := fmt.Sprint(got), fmt.Sprint(want); g != w {
		t.Errorf("%s:\n got %s\nwant %s", what, g, w)
	}
}

// stands fails unless a Scan's End and Err are these.
func stands(t *testing.T, what string, s *scan.Scan, p api.Pos, e api.Errno) {
	t.Helper()
	is(t, what+": End", s.End(), p)
	is(t, what+": Err", s.Err(), e)
}

// turned is a copy of bytes with one bit turned.
func turned(b []byte, bit int) []byte {
	c := bytes.Clone(b)
	c[bit/8] ^= 1 << (bit % 8)
	return c
}

func TestP13_1Example(t *testing.T) {
	for _, c := range configs() {
		d, g := device(t, c)
		for s := range c.Segs {
			lay(t, d, g.Seg(s), headed(t, s, 5, 20+s, 9))
			p := at(s, 1, 20+s, 9, 5)
			tells(t, "Segment of a head and nothing else", through(scan.Segment(d, g, s)), none(p))
			tells(t, "New at Off 0", through(scan.New(d, g, at(s, 0, 20+s, 9, 4))), none(p))
			tells(t, "New at Off 1", through(scan.New(d, g, p)), none(p))
		}
	}
}

func TestP13_1Some(t *testing.T) {
	l := some(t)
	want := l.told(0, 4)
	is(t, "Offs, by hand", fmt.Sprint(want.offs), "[1 3 4 11]")
	is(t, "End, by hand", want.end, at(1, 14, 14, sumOf(t, l.records[3]), 6))
	tells(t, "Segment", through(scan.Segment(l.d, l.g, 1)), want)
	tells(t, "New at Off 0", through(scan.New(l.d, l.g, at(1, 0, 10, 77, 3))), want)
	tells(t, "New at Off 1", through(scan.New(l.d, l.g, at(1, 1, 10, 77, 3))), want)
	is(t, "Flush", l.d.Flush(), api.OK)
	tells(t, "Segment, flushed", through(scan.Segment(l.d, l.g, 1)), want)
	tells(t, "Segment, behind a crash", through(scan.Segment(l.d.Crash(), l.g, 1)), want)
}

// In each segment of each geometry stand records of all sizes, as many as there is
// room for; from each of its places all that stand behind it are told, and at no
// other Off one is.
func TestP13_1EachSegment(t *testing.T) {
	for _, c := range configs() {
		d, g := device(t, c)
		var logs []*log
		for s := range c.Segs {
			l := begun(t, d, g, s, s+1, 100*s+1, maxSum-s)
			for k := s; l.at.Off+1+k%7 <= c.Len; k++ {
				l.add(t, s+1+k/9, sized(1+k%7)...)
			}
			logs = append(logs, l)
		}
		for s, l := range logs {
			n := len(l.places)
			tells(t, "Segment", through(scan.Segment(d, g, s)), l.told(0, n))
			tells(t, "New at Off 0", through(scan.New(d, g, at(s, 0, 100*s+1, maxSum-s, s+1))), l.told(0, n))
			for i, p := range l.places {
				tells(t, "New at a record", through(scan.New(d, g, p)), l.told(i, n))
				for off := -1; off <= c.Len+1; off++ {
					if q := at(s, off, p.LSN, p.Prev, p.Mount); off != p.Off && (off != 0 || i > 0) {
						tells(t, "New beside a record", through(scan.New(d, g, q)), none(q))
					}
				}
			}
			tells(t, "New behind all", through(scan.New(d, g, l.at)), none(l.at))
		}
	}
}

func TestP13_1HeadFits(t *testing.T) {
	l := some(t)
	for _, mount := range []int{3, 2, 1, 0, -1, math.MinInt} {
		p := at(1, 0, 10, 77, mount)
		s := scan.New(l.d, l.g, p)
		stands(t, "ahead", s, p, api.OK)
		tells(t, "a head of that Mount, or above", through(s), l.told(0, 4))
	}
}

func TestP13_1HeadDoesNotFit(t *testing.T) {
	l := some(t)
	places := []api.Pos{
		at(1, 0, 10, 77, 4), at(1, 0, 10, 77, maxNum), at(1, 0, 10, 77, math.MaxInt), at(1, 0, 9, 77, 3), at(1, 0, 11, 77, 3),
		at(1, 0, 10, 76, 3), at(1, 0, 10, 78, 3), at(1, 0, 0, 0, 0), at(0, 0, 10, 77, 3), at(2, 0, 10, 77, 3),
		at(7, 0, 10, 77, 3), at(1, 0, 77, 10, 3), at(1, 0, 3, 77, 3), at(1, 0, 1<<32+10, 77, 3), at(1, 0, 10, 1<<32+77, 3),
	}
	for _, p := range places {
		tells(t, "a head that does not fit", through(scan.New(l.d, l.g, p)), none(p))
	}
	for _, n := range far {
		p, q := at(1, 0, n, 77, 3), at(1, 0, 10, n, 3)
		tells(t, "a head of another LSN", through(scan.New(l.d, l.g, p)), none(p))
		tells(t, "a head of another Prev", through(scan.New(l.d, l.g, q)), none(q))
	}
}

// A head that tells of another segment fits no place of the one where it stands.
func TestP13_1HeadOfAnotherSegment(t *testing.T) {
	l := some(t)
	for seg := range api.MaxSegs {
		lay(t, l.d, l.g.Seg(1), headed(t, seg, 3, 10, 77))
		p := at(1, 0, 10, 77, 3)
		want := none(p)
		if seg == 1 {
			want = l.told(0, 4)
		}
		tells(t, "a head of that segment", through(scan.New(l.d, l.g, p)), want)
	}
}

// noHeads are sectors that are no head of segment 1 at LSN 10.
func noHeads(t *testing.T) [][]byte {
	t.Helper()
	own := headed(t, 1, 3, 10, 77)
	l := [][]byte{make([]byte, 64), block(1), encoded(t, of(3, 10, 77, mark(1))), append([]byte("KR"), own[2:]...)}
	for bit := range 512 {
		l = append(l, turned(own, bit))
	}
	return l
}

func TestP13_1NoHead(t *testing.T) {
	l := some(t)
	for _, b := range noHeads(t) {
		lay(t, l.d, l.g.Seg(1), b)
		p := at(1, 0, 10, 77, 3)
		tells(t, "New at Off 0", through(scan.New(l.d, l.g, p)), none(p))
		tells(t, "Segment", through(scan.Segment(l.d, l.g, 1)), none(at(1, 0, 0, 0, 0)))
		tells(t, "New at Off 1", through(scan.New(l.d, l.g, l.places[0])), l.told(0, 4))
	}
}

// From Off 1 on the head is not asked, whatever it says, or if it cannot be read.
func TestP13_1HeadIsNotAsked(t *testing.T) {
	l := some(t)
	for _, b := range [][]byte{headed(t, 1, 9, 10, 77), headed(t, 1, 3, 11, 77), headed(t, 1, 3, 10, 78), headed(t, 2, 3, 10, 77)} {
		lay(t, l.d, l.g.Seg(1), b)
		for i, p := range l.places {
			tells(t, "New", through(scan.New(l.d, l.g, p)), l.told(i, 4))
		}
	}
	l.d.Fault(l.g.Seg(1), true)
	for i, p := range l.places {
		tells(t, "New, a head that cannot be read", through(scan.New(l.d, l.g, p)), l.told(i, 4))
	}
}

// A head's Mount is the first record's least one, be the place's below it.
func TestP13_1HeadsMount(t *testing.T) {
	for _, mount := range []int{1, 2, 3, 4, 9, maxNum} {
		d, g := small(t)
		l := begun(t, d, g, 3, 3, 10, 77)
		l.add(t, mount, write(1))
		for _, low := range []int{-5, 1, 2, 3} {
			want := none(at(3, 1, 10, 77, 3))
			if mount >= 3 {
				want = l.told(0, 1)
			}
			tells(t, "New at Off 0", through(scan.New(d, g, at(3, 0, 10, 77, low))), want)
			tells(t, "Segment", through(scan.Segment(d, g, 3)), want)
			want = l.told(0, 1)
			if mount < low {
				want = none(at(3, 1, 10, 77, low))
			}
			tells(t, "New at Off 1", through(scan.New(d, g, at(3, 1, 10, 77, low))), want)
		}
	}
}

// Around each segment, and at its first sector, stand records that would follow, if
// an Off could tell of them.
func TestP13_1Offs(t *testing.T) {
	for _, c := range configs() {
		d, g := device(t, c)
		one := of(2, 5, 9, mark(1))
		for sector := range d.Sectors() {
			lay(t, d, sector, encoded(t, one))
		}
		for _, s := range []int{0, 1, c.Segs - 2, c.Segs - 1} {
			for _, off := range append([]int{1, 2, c.Len - 2, c.Len - 1}, 7, 17) {
				p := at(s, off, 5, 9, 2)
				want := seen{offs: []int{off}, records: []api.Record{one}, end: behind(t, p, one)}
				tells(t, "New within", through(scan.New(d, g, p)), want)
			}
			for _, off := range append([]int{0, -1, c.Len, c.Len + 1, -c.Len, 2 * c.Len, -g.Seg(s)}, far...) {
				p := at(s, off, 5, 9, 2)
				tells(t, "New beyond", through(scan.New(d, g, p)), none(p))
			}
		}
	}
}

func TestP13_1Segs(t *testing.T) {
	for _, c := range configs() {
		d, g := device(t, c)
		one := of(2, 5, 9, mark(1))
		for sector := range d.Sectors() {
			lay(t, d, sector, encoded(t, one))
		}
		for _, s := range append([]int{-1, c.Segs, -2, c.Segs + 1, 64, 255, 256, 257}, far...) {
			for _, off := range []int{0, 1, 5, c.Len - 1, c.Len, -1} {
				p := at(s, off, 5, 9, 2)
				x := scan.New(d, g, p)
				stands(t, "ahead", x, p, api.OK)
				tells(t, "New of no segment", through(x), none(p))
			}
			is(t, "Segment of no segment", scan.Segment(d, g, s), nil)
		}
	}
}

// noSizes are sectors of which Size is 0, though the sum of each holds.
func noSizes(t *testing.T) [][]byte {
	t.Helper()
	var l [][]byte
	for i, x := range []byte{'R', 'K', 'k', 0, 255} {
		b := encoded(t, of(4, 11, 0, mark(1)))
		b[i%2] = x
		l = append(l, withSum(b))
	}
	for items := range 256 {
		for _, blocks := range []int{0, 1, 5, 6, 7, 255} {
			if items < 1 || items > 6 || blocks > items {
				b := encoded(t, of(4, 11, 0, mark(1)))
				b[14], b[15] = byte(items), byte(blocks)
				l = append(l, withSum(b))
			}
		}
	}
	return append(l, make([]byte, 64), block(9), headed(t, 1, 4, 11, 0))
}

func TestP13_1NoSize(t *testing.T) {
	for _, b := range noSizes(t) {
		is(t, "record.Size", record.Size(b), 0)
		l := some(t)
		lay(t, l.d, l.g.Seg(1)+3, b)
		tells(t, "behind one record", through(scan.Segment(l.d, l.g, 1)), l.told(0, 1))
		p := l.places[1]
		tells(t, "at once", through(scan.New(l.d, l.g, p)), none(p))
	}
}

// A record of each size at each Off near its segment's end, with all of its blocks,
// also those that lie behind that end.
func TestP13_1SegmentsEnd(t *testing.T) {
	for _, c := range configs() {
		for _, s := range []int{0, 3, c.Segs - 1} {
			for n := 1; n <= 7; n++ {
				for off := c.Len - 9; off < c.Len; off++ {
					d, g := device(t, c)
					p := at(s, off, 5, 9, 2)
					r := of(2, 5, 9, sized(n)...)
					lay(t, d, g.Seg(s)+off, encoded(t, r))
					want := none(p)
					if off+n <= c.Len {
						want = seen{offs: []int{off}, records: []api.Record{r}, end: behind(t, p, r)}
					}
					tells(t, "near the end", through(scan.New(d, g, p)), want)
					for k := range beyond {
						d.Fault(g.Seg(s)+c.Len+k, true)
					}
					tells(t, "near the end, nothing to be read behind it", through(scan.New(d, g, p)), want)
				}
			}
		}
	}
}

// A segment that is full to its end: what stands at the next one's first sector does
// not go on there.
func TestP13_1FullSegment(t *testing.T) {
	for _, c := range configs() {
		for _, s := range []int{0, c.Segs - 1} {
			d, g := device(t, c)
			l := begun(t, d, g, s, 1, 1, 0)
			for l.at.Off < c.Len {
				l.add(t, 1, mark(l.at.Off))
			}
			n := len(l.places)
			is(t, "as many as there are sectors", n, c.Len-1)
			lay(t, d, g.Seg(s)+c.Len, encoded(t, of(1, l.at.LSN, l.at.Prev, mark(1))))
			tells(t, "a full segment", through(scan.Segment(d, g, s)), l.told(0, n))
			d.Fault(g.Seg(s)+c.Len, true)
			tells(t, "a full segment, nothing to be read behind it", through(scan.Segment(d, g, s)), l.told(0, n))
			is(t, "End", scan.New(d, g, l.at).End(), at(s, c.Len, c.Len, l.at.Prev, 1))
		}
	}
}

// follower is a record beside the one that follows a place, and whether it does.
type follower struct {
	r  api.Record
	ok bool
}

// followers are records beside those that follow a place.
func followers(p api.Pos) []follower {
	var l []follower
	for _, n := range []int{1, 2, 6} {
		items := sized(n)
		l = append(l,
			follower{of(p.Mount, p.LSN, p.Prev, items...), true},
			follower{of(p.Mount+1, p.LSN, p.Prev, items...), true},
			follower{of(maxNum, p.LSN, p.Prev, items...), true},
			follower{of(p.Mount-1, p.LSN, p.Prev, items...), false},
			follower{of(1, p.LSN, p.Prev, items...), false},
			follower{of(p.Mount, p.LSN-1, p.Prev, items...), false},
			follower{of(p.Mount, p.LSN+1, p.Prev, items...), false},
			follower{of(maxNum, maxNum, p.Prev, items...), false},
			follower{of(p.Mount, p.LSN, p.Prev-1, items...), false},
			follower{of(p.Mount, p.LSN, p.Prev+1, items...), false},
			follower{of(p.Mount, p.LSN, p.Prev^1<<31, items...), false},
			follower{of(p.Mount, p.LSN, 0, items...), false},
			follower{of(p.LSN, p.Mount, p.Prev, items...), false})
	}
	return l
}

func TestP13_1Follows(t *testing.T) {
	first := len(followers(at(1, 1, 10, 77, 3)))
	for i := range first {
		d, g := small(t)
		l := begun(t, d, g, 1, 3, 10, 77)
		for range 3 {
			x := followers(l.at)[i]
			lay(t, d, g.Seg(1)+l.at.Off, encoded(t, x.r))
			want := l.told(0, len(l.places))
			if x.ok {
				want.offs, want.records = append(want.offs, l.at.Off), append(slices.Clone(want.records), x.r)
				want.end = behind(t, l.at, x.r)
			}
			tells(t, "beside what follows", through(scan.Segment(d, g, 1)), want)
			tells(t, "beside what follows", through(scan.New(d, g, at(1, 0, 10, 77, 2))), want)
			lay(t, d, g.Seg(1)+l.at.Off, make([]byte, 7*64))
			l.add(t, 3+len(l.places), sized(1+len(l.places))...)
		}
	}
}

// The first that does not follow ends it, be there one behind it that would.
func TestP13_1EndedForGood(t *testing.T) {
	for i := range 4 {
		l := some(t)
		p := l.places[i]
		lay(t, l.d, l.g.Seg(1)+p.Off, make([]byte, 64))
		tells(t, "one lost", through(scan.Segment(l.d, l.g, 1)), l.told(0, i))
		if i < 3 {
			tells(t, "those behind it", through(scan.New(l.d, l.g, l.places[i+1])), l.told(i+1, 4))
		}
	}
}

func TestP13_1Mounts(t *testing.T) {
	for _, mounts := range [][]int{{3, 3, 3, 3}, {3, 4, 5, 6}, {5, 5, 9, 9}, {3, 3, 3, maxNum}, {3, 2}, {3, 5, 4}, {3, 5, 5, 3}, {4, 4, 3, 9}, {maxNum, maxNum, maxNum - 1}, {2, 3}} {
		d, g := small(t)
		l := begun(t, d, g, 1, 3, 10, 77)
		good, low := 0, 3
		for i, m := range mounts {
			l.add(t, m, sized(1+i)...)
			if good == i && m >= low {
				good, low = i+1, m
			}
		}
		tells(t, fmt.Sprint("Mounts ", mounts), through(scan.Segment(d, g, 1)), l.told(0, good))
		tells(t, fmt.Sprint("Mounts ", mounts), through(scan.New(d, g, at(1, 0, 10, 77, 1))), l.told(0, good))
	}
}

// The numbers of a place are held as they are, not by their lowest bytes only.
func TestP13_1FarPlaces(t *testing.T) {
	d, g := small(t)
	r := of(10, 10, 10, write(3))
	lay(t, d, g.Seg(0)+1, encoded(t, r))
	for _, n := range far {
		for _, p := range []api.Pos{at(0, 1, n, 10, 10), at(0, 1, 10, n, 10), at(0, 1, n, n, 10), at(n, 1, 10, 10, 10), at(0, n, 10, 10, 10)} {
			tells(t, "far", through(scan.New(d, g, p)), none(p))
		}
		p, want := at(0, 1, 10, 10, n), none(at(0, 1, 10, 10, n))
		if n <= 10 {
			want = seen{offs: []int{1}, records: []api.Record{r}, end: behind(t, p, r)}
		}
		tells(t, "a far Mount", through(scan.New(d, g, p)), want)
	}
}

// A place of zeros is followed by nothing, also not where there is no record.
func TestP13_1PlacesOfZeros(t *testing.T) {
	d, g := small(t)
	lay(t, d, g.Seg(1)+5, encoded(t, of(1, 1, 0, write(1))))
	lay(t, d, g.Seg(1)+20, encoded(t, of(1, 1, 0, writes(4)...)))
	for off := range 25 {
		for _, mount := range []int{0, -1, math.MinInt} {
			for _, prev := range []int{0, -1, 1} {
				p := at(1, off, 0, prev, mount)
				tells(t, "zeros", through(scan.New(d, g, p)), none(p))
			}
		}
	}
	d.Fault(g.Seg(1)+6, true)
	p := at(1, 5, 0, 0, 0)
	tells(t, "zeros, a block that cannot be read", through(scan.New(d, g, p)), none(p).failed(api.ErrRead))
}

func TestP13_1GreatestNumbers(t *testing.T) {
	d, g := small(t)
	l := begun(t, d, g, 7, maxNum, maxNum-1, maxSum)
	l.add(t, maxNum, write(63))
	l.add(t, maxNum, put(1), mark(maxNum))
	lay(t, d, g.Seg(7)+l.at.Off, encoded(t, of(maxNum, 1, l.at.Prev, mark(1))))
	want := l.told(0, 2)
	is(t, "LSN behind the greatest one", want.end.LSN, maxNum+1)
	tells(t, "Segment", through(scan.Segment(d, g, 7)), want)
	tells(t, "New", through(scan.New(d, g, at(7, 0, maxNum-1, maxSum, maxNum))), want)
	tells(t, "New behind them", through(scan.New(d, g, want.end)), none(want.end))
}

func TestP13_1Next(t *testing.T) {
	for seg := range api.MaxSegs {
		for n := 1; n <= 6; n++ {
			for k := range n {
				d, g := small(t)
				l := begun(t, d, g, 1, 3, 10, 77)
				l.add(t, 3, mark(1))
				items := writes(n)
				items[k] = next(seg)
				l.add(t, 3, items...)
				l.add(t, 3, mark(2))
				for _, s := range []*scan.Scan{scan.Segment(d, g, 1), scan.New(d, g, at(1, 0, 10, 77, 3)), scan.New(d, g, l.places[0])} {
					tells(t, "up to a Next", through(s), l.told(0, 2))
				}
				tells(t, "a Next at once", through(scan.New(d, g, l.places[1])), l.told(1, 2))
				tells(t, "behind a Next", through(scan.New(d, g, l.places[2])), l.told(2, 3))
			}
		}
	}
}

// What stands behind a Next is not read: it may be what cannot be.
func TestP13_1NothingIsReadBehindNext(t *testing.T) {
	d, g := small(t)
	l := begun(t, d, g, 1, 3, 10, 77)
	l.add(t, 3, write(1), next(3))
	for sector := g.Seg(1) + l.at.Off; sector < d.Sectors(); sector++ {
		d.Fault(sector, true)
	}
	s := scan.Segment(d, g, 1)
	for range 2 {
		tells(t, "a Next", through(s), l.told(0, 1))
	}
}

// No other kind of item ends it, and no two Nexts do otherwise than one.
func TestP13_1OtherKinds(t *testing.T) {
	for _, i := range []api.Item{write(7), trim(7, 7), mark(7), move(7, 7), put(7), drop(7, 7)} {
		d, g := small(t)
		l := begun(t, d, g, 1, 3, 10, 77)
		for range 6 {
			l.add(t, 3, i, mark(1))
		}
		tells(t, "no Next", through(scan.Segment(d, g, 1)), l.told(0, 6))
		l.add(t, 3, next(7), i, next(0))
		l.add(t, 3, i)
		tells(t, "two of them", through(scan.Segment(d, g, 1)), l.told(0, 7))
	}
}

// With any bit turned a record is none, and ends it.
func TestP13_1BitTurned(t *testing.T) {
	for _, i := range []int{0, 1, 3} {
		l := some(t)
		own := encoded(t, l.records[i])
		sector := l.g.Seg(1) + l.places[i].Off
		s, x := scan.Segment(l.d, l.g, 1), scan.New(l.d, l.g, l.places[i])
		for bit := range 8 * len(own) {
			lay(t, l.d, sector, turned(own, bit))
			tells(t, "a bit turned", through(s), l.told(0, i))
			tells(t, "a bit turned at once", through(x), none(l.places[i]))
		}
		lay(t, l.d, sector, own)
		tells(t, "turned back", through(s), l.told(0, 4))
	}
}

// Blocks of the right record at the wrong sector are none of it.
func TestP13_1BlockLost(t *testing.T) {
	l := some(t)
	for k := 1; k < 7; k++ {
		x := some(t)
		lay(t, x.d, x.g.Seg(1)+x.places[2].Off+k, make([]byte, 64))
		tells(t, "one block lost", through(scan.Segment(x.d, x.g, 1)), x.told(0, 2))
	}
	lay(t, l.d, l.g.Seg(1)+l.places[2].Off+1, slices.Concat(l.records[2].Blocks[1], l.records[2].Blocks[0]))
	tells(t, "two blocks in each other's place", through(scan.Segment(l.d, l.g, 1)), l.told(0, 2))
}

func TestP13_1Segment(t *testing.T) {
	for _, c := range configs() {
		d, g := device(t, c)
		for s := range c.Segs {
			p := at(s, 0, 0, 0, 0)
			tells(t, "without a head", through(scan.Segment(d, g, s)), none(p))
			lay(t, d, g.Seg(s)+1, encoded(t, of(1, 1, 0, mark(1))))
			tells(t, "a record without a head", through(scan.Segment(d, g, s)), none(p))
			lay(t, d, g.Seg(s), encoded(t, of(1, 1, 0, mark(1))))
			tells(t, "a record in the head's stead", through(scan.Segment(d, g, s)), none(p))
		}
		for s := range c.Segs {
			l := begun(t, d, g, s, 1+s, maxNum-3, maxSum-s)
			l.add(t, 1+s, sized(1+s%7)...)
			tells(t, "with a head", through(scan.Segment(d, g, s)), l.told(0, 1))
		}
	}
}

// Records that follow another place than the head's are not told.
func TestP13_1SegmentOfAnotherHead(t *testing.T) {
	for _, h := range []api.Head{{Seg: 1, Mount: 4, LSN: 10, Prev: 77}, {Seg: 1, Mount: 3, LSN: 9, Prev: 77}, {Seg: 1, Mount: 3, LSN: 11, Prev: 77}, {Seg: 1, Mount: 3, LSN: 10, Prev: 78}, {Seg: 1, Mount: maxNum, LSN: maxNum, Prev: maxSum}} {
		l := some(t)
		lay(t, l.d, l.g.Seg(1), headed(t, h.Seg, h.Mount, h.LSN, h.Prev))
		tells(t, "another head", through(scan.Segment(l.d, l.g, 1)), none(at(1, 1, h.LSN, h.Prev, h.Mount)))
	}
	for mount := 1; mount <= 3; mount++ {
		l := some(t)
		lay(t, l.d, l.g.Seg(1), headed(t, 1, mount, 10, 77))
		tells(t, "a head of a Mount below", through(scan.Segment(l.d, l.g, 1)), l.told(0, 4))
	}
}

// Segment asks that a head stands there, not of which segment it tells.
func TestP13_1SegmentOfAnotherNumber(t *testing.T) {
	l := some(t)
	for seg := range api.MaxSegs {
		lay(t, l.d, l.g.Seg(1), headed(t, seg, 3, 10, 77))
		tells(t, "a head of whichever segment", through(scan.Segment(l.d, l.g, 1)), l.told(0, 4))
	}
}

func TestP13_1Nil(t *testing.T) {
	d, g := small(t)
	for _, p := range []api.Pos{{}, at(1, 1, 1, 1, 1), at(-1, 0, 0, 0, 0), at(8, 99, 1, 1, 1)} {
		is(t, "New of a nil disk", scan.New(nil, g, p), nil)
		is(t, "New of a nil geometry", scan.New(d, nil, p), nil)
		is(t, "New of neither", scan.New(nil, nil, p), nil)
		is(t, "New of both", scan.New(d, g, p) != nil, true)
	}
	for _, s := range append([]int{0, 1, 7, 8}, far...) {
		is(t, "Segment of a nil disk", scan.Segment(nil, g, s), nil)
		is(t, "Segment of a nil geometry", scan.Segment(d, nil, s), nil)
		is(t, "Segment of neither", scan.Segment(nil, nil, s), nil)
		is(t, "Segment of both", scan.Segment(d, g, s) != nil, s == 0 || s == 1 || s == 7)
	}
	none, e := geom.New(api.Config{Blocks: 20, Segs: 7, Len: 24})
	is(t, "geom.New", e, api.ErrArg)
	is(t, "New of what geom.New refused", scan.New(d, none, api.Pos{}), nil)
	gone, e := vdisk.New(0)
	is(t, "vdisk.New", e, api.ErrArg)
	is(t, "Segment of what vdisk.New refused", scan.Segment(gone, g, 1), nil)
}

// What was never made is empty, and panics nowhere.
func TestP13_1Unmade(t *testing.T) {
	d, g := small(t)
	tells(t, "a Scan", through(new(scan.Scan)), seen{})
	is(t, "Segment of an unmade geometry", scan.Segment(d, new(geom.Geom), 0), nil)
	tells(t, "New of an unmade geometry", through(scan.New(d, new(geom.Geom), at(0, 1, 1, 1, 1))), none(at(0, 1, 1, 1, 1)))
	tells(t, "New of an unmade disk", through(scan.New(new(vdisk.Disk), g, at(0, 1, 1, 1, 1))), none(at(0, 1, 1, 1, 1)).failed(api.ErrArg))
}

func TestP13_2AheadOfTheFirstTime(t *testing.T) {
	l := some(t)
	for _, p := range append(slices.Clone(l.places), at(1, 0, 10, 77, 3), at(1, 0, 9, 9, 9), at(-1, 5, 6, 7, 8), at(math.MaxInt, math.MinInt, -1, 1<<40, -9), api.Pos{}) {
		s := scan.New(l.d, l.g, p)
		stands(t, "New", s, p, api.OK)
		s.Records()
		stands(t, "New, not gone through", s, p, api.OK)
	}
	for seg := range 8 {
		s := scan.Segment(l.d, l.g, seg)
		stands(t, "Segment", s, at(seg, 0, 0, 0, 0), api.OK)
		s.Records()
		stands(t, "Segment, not gone through", s, at(seg, 0, 0, 0, 0), api.OK)
	}
}

// Ahead of the first time nothing is read: no error is known then.
func TestP13_2AheadOfTheFirstTimeWithFaults(t *testing.T) {
	l := some(t)
	for sector := range l.d.Sectors() {
		l.d.Fault(sector, true)
	}
	stands(t, "New", scan.New(l.d, l.g, l.places[0]), l.places[0], api.OK)
	stands(t, "Segment", scan.Segment(l.d, l.g, 1), at(1, 0, 0, 0, 0), api.OK)
	l.d.Fuse(0)
	l.d.Flush()
	stands(t, "New, off", scan.New(l.d, l.g, l.places[0]), l.places[0], api.OK)
	stands(t, "Segment, off", scan.Segment(l.d, l.g, 1), at(1, 0, 0, 0, 0), api.OK)
}

// scans are all ways to the records of some.
func scans(l *log) []*scan.Scan {
	return []*scan.Scan{scan.Segment(l.d, l.g, 1), scan.New(l.d, l.g, at(1, 0, 10, 77, 2)), scan.New(l.d, l.g, l.places[0])}
}

func TestP13_2StoppedAndAgain(t *testing.T) {
	l := some(t)
	for _, s := range scans(l) {
		for n := 1; n <= 5; n++ {
			tells(t, "stopped", stopped(s, n), l.told(0, min(n, 4)))
			tells(t, "again", through(s), l.told(0, 4))
			tells(t, "stopped again", stopped(s, n), l.told(0, min(n, 4)))
			tells(t, "stopped behind the first", stopped(s, 1), l.told(0, 1))
		}
	}
}

// One call of Records may be gone through again as well as two of them.
func TestP13_2OneCallAgain(t *testing.T) {
	l := some(t)
	for _, s := range scans(l) {
		walk := s.Records()
		for n := range 5 {
			var offs []int
			for off := range walk {
				if offs = append(offs, off); len(offs) == n {
					break
				}
			}
			want := l.told(0, 4)
			if n > 0 {
				want = l.told(0, n)
			}
			is(t, "Offs", fmt.Sprint(offs), fmt.Sprint(want.offs))
			stands(t, "behind it", s, want.end, api.OK)
		}
	}
}

// A walk that is stopped asks for nothing more.
func TestP13_2StoppedForGood(t *testing.T) {
	l := some(t)
	for _, s := range scans(l) {
		for last := range 4 {
			n := 0
			s.Records()(func(int, api.Record) bool {
				n++
				return n <= last
			})
			is(t, "calls of yield", n, last+1)
			stands(t, "behind it", s, l.told(0, last+1).end, api.OK)
		}
	}
}

// In the midst End is the place behind the record that has just been told.
func TestP13_2InTheMidst(t *testing.T) {
	l := some(t)
	for _, s := range scans(l) {
		for range 2 {
			i := 0
			for range s.Records() {
				i++
				stands(t, "in the midst", s, l.told(0, i).end, api.OK)
			}
			is(t, "records", i, 4)
		}
	}
}

func TestP13_2StoppedByPanic(t *testing.T) {
	l := some(t)
	for _, s := range scans(l) {
		for i := range 4 {
			func() {
				defer func() { recover() }()
				for off := range s.Records() {
					if off == l.places[i].Off {
						panic("enough")
					}
				}
			}()
			stands(t, "behind a panic of the loop", s, l.told(0, i+1).end, api.OK)
			tells(t, "again", through(s), l.told(0, 4))
		}
	}
}

func TestP13_2TurnedBetween(t *testing.T) {
	l := some(t)
	all := scans(l)
	check := func(what string, want seen) {
		t.Helper()
		for _, s := range all {
			tells(t, what, through(s), want)
		}
	}
	check("some", l.told(0, 4))
	l.add(t, 6, mark(9))
	check("one more", l.told(0, 5))
	own := encoded(t, l.records[1])
	sector := l.g.Seg(1) + l.places[1].Off
	lay(t, l.d, sector, make([]byte, 64))
	check("one lost", l.told(0, 1))
	lay(t, l.d, sector, own)
	check("it is there again", l.told(0, 5))
	other := of(5, 11, l.places[1].Prev, mark(77))
	lay(t, l.d, sector, encoded(t, other))
	want := l.told(0, 1)
	want.offs, want.records = append(want.offs, 3), []api.Record{l.records[0], other}
	want.end = behind(t, l.places[1], other)
	check("another one in its place", want)
}

func TestP13_2HeadTurnedBetween(t *testing.T) {
	l := some(t)
	whole, placed, first := scan.Segment(l.d, l.g, 1), scan.New(l.d, l.g, at(1, 0, 10, 77, 2)), scan.New(l.d, l.g, l.places[0])
	for range 2 {
		lay(t, l.d, l.g.Seg(1), headed(t, 1, 3, 10, 77))
		tells(t, "Segment", through(whole), l.told(0, 4))
		tells(t, "New at Off 0", through(placed), l.told(0, 4))
		lay(t, l.d, l.g.Seg(1), headed(t, 1, 1, 10, 77))
		tells(t, "Segment, a lower Mount", through(whole), l.told(0, 4))
		tells(t, "New at Off 0, a lower Mount", through(placed), none(at(1, 0, 10, 77, 2)))
		lay(t, l.d, l.g.Seg(1), headed(t, 1, 4, 10, 77))
		tells(t, "Segment, a higher Mount", through(whole), none(at(1, 1, 10, 77, 4)))
		tells(t, "New at Off 0, a higher Mount", through(placed), none(at(1, 1, 10, 77, 4)))
		lay(t, l.d, l.g.Seg(1), make([]byte, 64))
		tells(t, "Segment, no head", through(whole), none(at(1, 0, 0, 0, 0)))
		tells(t, "New at Off 0, no head", through(placed), none(at(1, 0, 10, 77, 2)))
		tells(t, "New at Off 1", through(first), l.told(0, 4))
	}
}

// What is written in the midst, ahead of where a walk has come to, is read.
func TestP13_2TurnedInTheMidst(t *testing.T) {
	for i := range 4 {
		l := some(t)
		for _, s := range scans(l) {
			n := 0
			for off := range s.Records() {
				n++
				if off == l.places[i].Off {
					l.add(t, 6, mark(n))
					lay(t, l.d, l.g.Seg(1)+off, make([]byte, 64))
				}
			}
			is(t, "records", n, len(l.places))
			stands(t, "behind it", s, l.at, api.OK)
			lay(t, l.d, l.g.Seg(1)+l.places[i].Off, encoded(t, l.records[i]))
			n = 0
			for off := range s.Records() {
				n++
				if off == l.places[i].Off {
					lay(t, l.d, l.g.Seg(1)+l.places[i+1].Off, make([]byte, 64))
				}
			}
			is(t, "records", n, i+1)
			stands(t, "behind it", s, l.places[i+1], api.OK)
			lay(t, l.d, l.g.Seg(1)+l.places[i+1].Off, encoded(t, l.records[i+1]))
		}
	}
}

// spoil turns all that a record has.
func spoil(r api.Record) {
	for k := range r.Items {
		r.Items[k] = api.Item{Kind: 99, Block: -1}
	}
	for k := range r.Blocks {
		clear(r.Blocks[k])
		_ = append(r.Blocks[k], 1, 2, 3)
		r.Blocks[k] = nil
	}
	_, _ = append(r.Items, mark(1)), append(r.Blocks, nil)
}

func TestP13_2WhatIsToldTurned(t *testing.T) {
	l := some(t)
	for _, s := range scans(l) {
		n := 0
		for _, r := range s.Records() {
			spoil(r)
			n++
		}
		is(t, "records", n, 4)
		tells(t, "told again", through(s), l.told(0, 4))
		kept := through(s)
		for _, r := range through(s).records {
			spoil(r)
		}
		tells(t, "told ahead", kept, l.told(0, 4))
	}
}

// Whether a record has a Next is as it stands on the disk, not as the loop leaves it.
func TestP13_2NextTurned(t *testing.T) {
	l := some(t)
	for _, s := range scans(l) {
		n := 0
		for _, r := range s.Records() {
			r.Items[0] = next(3)
			n++
		}
		is(t, "records, each told a Next", n, 4)
		stands(t, "behind it", s, l.at, api.OK)
	}
	d, g := small(t)
	l = begun(t, d, g, 1, 3, 10, 77)
	l.add(t, 3, mark(1), next(3))
	l.add(t, 3, mark(2))
	for _, s := range scans(l) {
		n := 0
		for _, r := range s.Records() {
			r.Items[1] = mark(3)
			n++
		}
		is(t, "records, a Next taken away", n, 1)
		stands(t, "behind it", s, l.places[1], api.OK)
	}
}

// A record's lists are its own, also each block.
func TestP13_2ListsOfTheirOwn(t *testing.T) {
	l := some(t)
	got := through(scan.Segment(l.d, l.g, 1))
	for i, r := range got.records {
		for k := range r.Blocks {
			b := bytes.Clone(r.Blocks[k])
			r.Blocks[k][0]++
			_ = append(r.Blocks[k], 7, 7, 7, 7)
			r.Blocks[k][0]--
			is(t, "a block", bytes.Equal(r.Blocks[k], b), true)
		}
		_ = append(r.Items, next(1))
		is(t, "the record", fmt.Sprint(got.records[i]), fmt.Sprint(l.records[i]))
	}
	tells(t, "all of them", got, l.told(0, 4))
}

// faulty is the first of a log's sectors, by Off from that of the first place on,
// that a walk meets with a fault: how many records are told ahead of it.
func (l *log) faulty(off int) (told int, met bool) {
	for i, p := range l.places {
		if off < p.Off+1+len(l.records[i].Blocks) {
			return i, off >= l.places[0].Off
		}
	}
	return len(l.places), off == l.at.Off
}

func TestP13_2Faults(t *testing.T) {
	l := some(t)
	whole, placed, first := scan.Segment(l.d, l.g, 1), scan.New(l.d, l.g, at(1, 0, 10, 77, 2)), scan.New(l.d, l.g, l.places[0])
	for sector := range l.d.Sectors() {
		off := sector - l.g.Seg(1)
		l.d.Fault(sector, true)
		want := l.told(0, 4)
		if n, met := l.faulty(off); met {
			want = l.told(0, n).failed(api.ErrRead)
		}
		tells(t, "New at Off 1", through(first), want)
		if off == 0 {
			tells(t, "Segment, its head", through(whole), none(at(1, 0, 0, 0, 0)).failed(api.ErrRead))
			tells(t, "New at Off 0, the head", through(placed), none(at(1, 0, 10, 77, 2)).failed(api.ErrRead))
		} else {
			tells(t, "Segment", through(whole), want)
			tells(t, "New at Off 0", through(placed), want)
		}
		l.d.Fault(sector, false)
		for _, s := range []*scan.Scan{whole, placed, first} {
			tells(t, "no fault", through(s), l.told(0, 4))
		}
	}
}

// Which sectors are met: 38 to 40 are head, summary and block; 51 is the last block,
// 52 the summary that is none.
func TestP13_2FaultsByHand(t *testing.T) {
	l := some(t)
	for _, x := range []struct{ sector, told int }{{39, 0}, {40, 0}, {41, 1}, {42, 2}, {43, 2}, {48, 2}, {49, 3}, {51, 3}, {52, 4}} {
		l.d.Fault(x.sector, true)
		s := scan.Segment(l.d, l.g, 1)
		tells(t, fmt.Sprint("sector ", x.sector), through(s), l.told(0, x.told).failed(api.ErrRead))
		l.d.Fault(x.sector, false)
	}
}

// A record is read whole, whatever it follows: what its summary says stands there
// may be what cannot be read.
func TestP13_2FaultWithinWhatDoesNotFollow(t *testing.T) {
	l := some(t)
	sector := l.g.Seg(1) + l.at.Off
	for _, r := range []api.Record{of(6, 1, l.at.Prev, writes(3)...), of(6, l.at.LSN, 5, writes(3)...), of(2, l.at.LSN, l.at.Prev, writes(3)...)} {
		lay(t, l.d, sector, encoded(t, r))
		for _, s := range scans(l) {
			tells(t, "one that does not follow", through(s), l.told(0, 4))
			for k := range 6 {
				l.d.Fault(sector+k, true)
				want := l.told(0, 4)
				if k <= 3 {
					want = want.failed(api.ErrRead)
				}
				tells(t, "one that does not follow, with a fault", through(s), want)
				l.d.Fault(sector+k, false)
			}
		}
	}
}

// Of one that would reach past the segment's end nothing but the summary is read.
func TestP13_2FaultWithinWhatReachesBeyond(t *testing.T) {
	d, g := small(t)
	p := at(1, 20, 5, 9, 2)
	lay(t, d, g.Seg(1)+20, encoded(t, of(2, 5, 9, writes(4)...)))
	s := scan.New(d, g, p)
	for k := 1; k < 7; k++ {
		d.Fault(g.Seg(1)+20+k, true)
		tells(t, "its blocks", through(s), none(p))
	}
	d.Fault(g.Seg(1)+20, true)
	tells(t, "its summary", through(s), none(p).failed(api.ErrRead))
}

// Each time that it is gone through makes Err and End anew.
func TestP13_2ErrAnew(t *testing.T) {
	l := some(t)
	for _, s := range scans(l) {
		for i := range 4 {
			sector := l.g.Seg(1) + l.places[i].Off
			l.d.Fault(sector, true)
			tells(t, "a fault", through(s), l.told(0, i).failed(api.ErrRead))
			for n := 1; n <= i; n++ {
				tells(t, "stopped ahead of the fault", stopped(s, n), l.told(0, n))
				tells(t, "the fault again", through(s), l.told(0, i).failed(api.ErrRead))
			}
			s.Records()
			stands(t, "not gone through", s, l.places[i], api.ErrRead)
			l.d.Fault(sector, false)
			stands(t, "not gone through, the fault gone", s, l.places[i], api.ErrRead)
			for range s.Records() {
				is(t, "Err in the midst", s.Err(), api.OK)
			}
			stands(t, "gone through", s, l.at, api.OK)
		}
	}
}

// A fault that comes, or goes, in the midst counts for what is read behind it.
func TestP13_2FaultInTheMidst(t *testing.T) {
	l := some(t)
	for _, s := range scans(l) {
		for i := range 4 {
			for range s.Records() {
				l.d.Fault(l.g.Seg(1)+l.told(0, i+1).end.Off, true)
			}
			stands(t, "a fault comes", s, l.told(0, i+1).end, api.ErrRead)
			for range s.Records() {
				l.d.Fault(l.g.Seg(1)+l.told(0, i+1).end.Off, false)
			}
			stands(t, "it goes", s, l.at, api.OK)
		}
	}
}

func TestP13_2Off(t *testing.T) {
	l := some(t)
	all := scans(l)
	for _, s := range all {
		tells(t, "with power", through(s), l.told(0, 4))
	}
	l.d.Fuse(0)
	is(t, "Flush", l.d.Flush(), api.ErrOff)
	for range 2 {
		tells(t, "Segment", through(all[0]), none(at(1, 0, 0, 0, 0)).failed(api.ErrOff))
		tells(t, "New at Off 0", through(all[1]), none(at(1, 0, 10, 77, 2)).failed(api.ErrOff))
		tells(t, "New at Off 1", through(all[2]), none(l.places[0]).failed(api.ErrOff))
	}
	l.d.Fault(l.g.Seg(1), true)
	tells(t, "Segment, with a fault, too", through(all[0]), none(at(1, 0, 0, 0, 0)).failed(api.ErrOff))
	for _, p := range []api.Pos{at(9, 0, 10, 77, 3), at(-1, 1, 10, 77, 3), at(1, 24, 10, 77, 3), at(1, -1, 10, 77, 3), l.at} {
		want := none(p)
		if p == l.at {
			want = want.failed(api.ErrOff)
		}
		tells(t, "nothing is read where nothing can be", through(scan.New(l.d, l.g, p)), want)
	}
}

func TestP13_2OffInTheMidst(t *testing.T) {
	for i := range 4 {
		for which := range 3 {
			l := some(t)
			s := scans(l)[which]
			n := 0
			for range s.Records() {
				if n++; n == i+1 {
					l.d.Fuse(0)
					l.d.Flush()
				}
			}
			is(t, "records", n, i+1)
			stands(t, "the power went", s, l.told(0, i+1).end, api.ErrOff)
			n = 0
			for range s.Records() {
				n++
			}
			is(t, "records, once more", n, 0)
			is(t, "Err, once more", s.Err(), api.ErrOff)
		}
	}
}

// Segments beyond a disk's last sector cannot be read.
func TestP13_2SmallDisk(t *testing.T) {
	_, g := small(t)
	for _, n := range []int{1, 38, 39, 40, 41, 42} {
		d, e := vdisk.New(n)
		is(t, "vdisk.New", e, api.OK)
		p := at(1, 1, 10, 77, 3)
		r := of(3, 10, 77, write(1))
		b := slices.Concat(headed(t, 1, 3, 10, 77), encoded(t, r))
		lay(t, d, min(38, n), b[:64*max(0, min(3, n-38))])
		want := none(p)
		if n > 40 {
			want = seen{offs: []int{1}, records: []api.Record{r}, end: behind(t, p, r)}
		}
		if n < 42 {
			want = want.failed(api.ErrArg)
		}
		tells(t, "New at Off 1", through(scan.New(d, g, p)), want)
		if n <= 38 {
			want.end = at(1, 0, 0, 0, 0)
		}
		tells(t, "Segment", through(scan.Segment(d, g, 1)), want)
	}
}

// Walks of one Scan within each other do not meet: behind each of them End and Err
// are its own.
func TestP13_2WithinAnother(t *testing.T) {
	l := some(t)
	for _, s := range scans(l) {
		for outer := 1; outer <= 5; outer++ {
			for inner := range 5 {
				n := 0
				for off := range s.Records() {
					is(t, "Off of the outer one", off, l.places[n].Off)
					n++
					want := l.told(0, 4)
					if inner > 0 {
						want = l.told(0, inner)
					}
					tells(t, "the inner one", stopped(s, inner), want)
					if n == outer {
						break
					}
				}
				stands(t, "the outer one", s, l.told(0, min(outer, 4)).end, api.OK)
			}
		}
	}
}

// The inner one's error is not the outer one's.
func TestP13_2ErrWithinAnother(t *testing.T) {
	l := some(t)
	for _, s := range scans(l) {
		sector := l.g.Seg(1) + l.places[2].Off
		n := 0
		for range s.Records() {
			n++
			l.d.Fault(sector, true)
			tells(t, "the inner one", through(s), l.told(0, 2).failed(api.ErrRead))
			l.d.Fault(sector, false)
			if n == 3 {
				break
			}
		}
		stands(t, "the outer one, stopped", s, l.places[3], api.OK)
		for range s.Records() {
			l.d.Fault(sector, true)
			through(s)
			l.d.Fault(sector, false)
		}
		stands(t, "the outer one", s, l.at, api.OK)
	}
}

// Two Scans of one disk have nothing in common, and two walks go on side by side.
func TestP13_2SideBySide(t *testing.T) {
	l := some(t)
	all := scans(l)
	for _, a := range all {
		for _, b := range append(scans(l), a) {
			nextA, stopA := iter.Pull2(a.Records())
			nextB, stopB := iter.Pull2(b.Records())
			for i := range 5 {
				offA, rA, okA := nextA()
				offB, rB, okB := nextB()
				is(t, "told", okA && okB, i < 4)
				is(t, "like ones", fmt.Sprint(offA, rA, okA), fmt.Sprint(offB, rB, okB))
				stands(t, "the second one", b, l.told(0, min(i+1, 4)).end, api.OK)
				stands(t, "the first one", a, l.told(0, min(i+1, 4)).end, api.OK)
			}
			stopA()
			stopB()
		}
	}
	a, b := scan.Segment(l.d, l.g, 1), scan.Segment(l.d, l.g, 2)
	through(a)
	stands(t, "the other one", b, at(2, 0, 0, 0, 0), api.OK)
	tells(t, "the other one", through(b), none(at(2, 0, 0, 0, 0)))
	stands(t, "the first one", a, l.at, api.OK)
}

// Going through turns nothing of the disk.
func TestP13_2DiskStays(t *testing.T) {
	l := some(t)
	l.d.Fuse(3)
	acts, held := l.d.Acts(), l.d.Held()
	sectors := func() (out string) {
		for sector := range l.d.Sectors() {
			b, _ := l.d.Read(sector)
			out += string(b)
		}
		return out
	}
	ahead := sectors()
	for _, s := range scans(l) {
		for n := range 5 {
			stopped(s, n)
		}
	}
	for seg := range 8 {
		through(scan.Segment(l.d, l.g, seg))
	}
	is(t, "Acts", l.d.Acts(), acts)
	is(t, "Held", l.d.Held(), held)
	is(t, "Off", l.d.Off(), false)
	is(t, "sectors", sectors() == ahead, true)
}

func TestP13_2Nil(t *testing.T) {
	d, g := small(t)
	for _, s := range []*scan.Scan{nil, scan.New(nil, g, api.Pos{Seg: 1}), scan.Segment(d, g, 8)} {
		for range 2 {
			stands(t, "nil", s, api.Pos{}, api.ErrArg)
			tells(t, "nil", through(s), seen{err: api.ErrArg})
			tells(t, "nil", stopped(s, 1), seen{err: api.ErrArg})
		}
		walk := s.Records()
		for range 2 {
			for range walk {
				t.Error("a nil Scan tells a record")
			}
		}
	}
}

// byHand is what a walk tells: at each place whatever number of sectors there is a
// record, without a look at its summary.
func byHand(t *testing.T, d *vdisk.Disk, g *geom.Geom, p api.Pos, whole bool) seen {
	t.Helper()
	out := none(p)
	first, size := g.Seg(p.Seg), g.Config().Len
	if p.Off == 0 {
		b, _ := d.Read(first)
		h, e := head.Decode(b)
		if e != api.OK || !whole && (h.Seg != p.Seg || h.LSN != p.LSN || h.Prev != p.Prev || h.Mount < p.Mount) {
			return out
		}
		out.end = at(p.Seg, 1, h.LSN, h.Prev, h.Mount)
	}
	for {
		var found *api.Record
		var b []byte
		for n := out.end.Off; n < size && found == nil; n++ {
			more, _ := d.Read(first + n)
			b = append(b, more...)
			if r, _, e := record.Decode(b); e == api.OK {
				found = &r
			}
		}
		if found == nil || found.LSN != out.end.LSN || found.Prev != out.end.Prev || found.Mount < out.end.Mount {
			return out
		}
		out.offs, out.records = append(out.offs, out.end.Off), append(out.records, *found)
		out.end = behind(t, out.end, *found)
		for _, i := range found.Items {
			if i.Kind == api.Next {
				return out
			}
		}
	}
}

// rule picks numbers, always the same ones.
type rule uint32

func (r *rule) pick(below int) int {
	*r = *r*1664525 + 1013904223
	return int(*r>>8) % below
}

// wild lays heads and records over each other, some of which follow the last ones,
// and answers the places that they went to.
func wild(t *testing.T, r *rule, d *vdisk.Disk, g *geom.Geom) []api.Pos {
	t.Helper()
	var places []api.Pos
	c := g.Config()
	for s := range c.Segs {
		l := &log{d: d, g: g, at: at(s, r.pick(c.Len), 1+r.pick(3), r.pick(2), 1+r.pick(3))}
		if r.pick(4) > 0 {
			l = begun(t, d, g, s, 1+r.pick(3), 1+r.pick(3), r.pick(2))
		}
		places = append(places, at(s, 0, l.at.LSN, l.at.Prev, 1+r.pick(3)))
		for range r.pick(12) {
			items := sized(1 + r.pick(7))
			if r.pick(12) == 0 {
				items[0] = next(r.pick(32))
			}
			if l.at.Off+len(items) >= c.Len {
				break
			}
			places = append(places, l.at)
			l.add(t, l.at.Mount+r.pick(8)/7, items...)
			switch r.pick(16) {
			case 0:
				l.at.Mount = max(1, l.at.Mount-1)
			case 1:
				l.at.LSN++
			case 2:
				l.at.Off++
			case 3:
				l.at.Prev ^= 1
			}
		}
		places = append(places, l.at)
	}
	return places
}

// Disks that are written by a fixed rule, several times over, tell what is found
// there by hand.
func TestP13_2AgainstByHand(t *testing.T) {
	r := rule(13)
	told, longest := 0, 0
	for _, c := range configs() {
		d, g := device(t, c)
		for range 12 {
			for _, p := range wild(t, &r, d, g) {
				want := byHand(t, d, g, p, false)
				tells(t, "New", through(scan.New(d, g, p)), want)
				told += len(want.offs)
				longest = max(longest, len(want.offs))
			}
			for s := range c.Segs {
				want := byHand(t, d, g, at(s, 0, 0, 0, 0), true)
				tells(t, "Segment", through(scan.Segment(d, g, s)), want)
			}
			sector := r.pick(g.Sectors())
			b, _ := d.Read(sector)
			lay(t, d, sector, turned(b, r.pick(512)))
		}
	}
	is(t, "many records are told", told > 1000 && longest > 8, true)
}
