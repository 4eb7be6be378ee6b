package vdisk_test

import (
	"bytes"
	"math"
	"slices"
	"testing"

	"keelson/api"
	"keelson/vdisk"
)

// noSectors is what is no sector of a disk of 4, and of most others.
var noSectors = []int{4, -1, 5, 64, 4096, math.MaxInt, math.MinInt}

// badSizes is what is no sector's size in bytes.
var badSizes = []int{0, 1, 63, 65, 128, 4096}

// made is a disk of so many sectors.
func made(t *testing.T, sectors int) *vdisk.Disk {
	t.Helper()
	d, e := vdisk.New(sectors)
	if d == nil || e != api.OK {
		t.Fatalf("New(%d): got %v and error %d", sectors, d, e)
	}
	return d
}

// full is a sector of one byte.
func full(x byte) []byte {
	return bytes.Repeat([]byte{x}, 64)
}

// counted is a sector whose bytes all differ, by a seed.
func counted(seed int) []byte {
	b := make([]byte, 64)
	for i := range b {
		b[i] = byte(seed + 3*i)
	}
	return b
}

// cut is the first n bytes of one sector, with the others of another behind them.
func cut(n int, first, behind []byte) []byte {
	return slices.Concat(first[:n], behind[n:])
}

// told fails unless a call answered that error.
func told(t *testing.T, what string, got, want api.Errno) {
	t.Helper()
	if got != want {
		t.Errorf("%s: got error %d, want %d", what, got, want)
	}
}

// is fails unless a call answered that.
func is[T comparable](t *testing.T, what string, got, want T) {
	t.Helper()
	if got != want {
		t.Errorf("%s: got %v, want %v", what, got, want)
	}
}

// reads fails unless a sector is read as that.
func reads(t *testing.T, what string, d *vdisk.Disk, at int, want []byte) {
	t.Helper()
	if b, e := d.Read(at); e != api.OK || !bytes.Equal(b, want) {
		t.Errorf("%s: Read(%d): got %v and error %d, want %v", what, at, b, e, want)
	}
}

// unread fails unless a Read answers that error, and no bytes.
func unread(t *testing.T, what string, d *vdisk.Disk, at int, want api.Errno) {
	t.Helper()
	if b, e := d.Read(at); e != want || len(b) != 0 {
		t.Errorf("%s: Read(%d): got %v and error %d, want error %d", what, at, b, e, want)
	}
}

// writes fails unless a sector is written.
func writes(t *testing.T, d *vdisk.Disk, at int, b []byte) {
	t.Helper()
	told(t, "Write", d.Write(at, b), api.OK)
}

// flushes fails unless what is held is safe then.
func flushes(t *testing.T, d *vdisk.Disk) {
	t.Helper()
	told(t, "Flush", d.Flush(), api.OK)
	is(t, "Held behind a Flush", d.Held(), 0)
}

func TestP3_1NewSizes(t *testing.T) {
	for _, n := range []int{1, 2, 3, 2048, 4095, 4096} {
		d := made(t, n)
		is(t, "Sectors", d.Sectors(), n)
		is(t, "Held", d.Held(), 0)
		is(t, "Acts", d.Acts(), 0)
		is(t, "Off", d.Off(), false)
		for at := range n {
			reads(t, "a new disk", d, at, full(0))
		}
		unread(t, "behind the last sector", d, n, api.ErrArg)
	}
}

func TestP3_1NewWrongSizes(t *testing.T) {
	for _, n := range []int{0, -1, -4096, 4097, 8192, math.MaxInt, math.MinInt} {
		if d, e := vdisk.New(n); d != nil || e != api.ErrArg {
			t.Errorf("New(%d): got %v and error %d", n, d, e)
		}
	}
}

func TestP3_1EachSector(t *testing.T) {
	for _, n := range []int{1, 2, 4096} {
		d := made(t, n)
		for at := range n {
			writes(t, d, at, counted(at))
			is(t, "Held", d.Held(), at+1)
		}
		for at := range n {
			reads(t, "held", d, at, counted(at))
		}
		flushes(t, d)
		for at := range n {
			reads(t, "safe", d, at, counted(at))
		}
	}
}

func TestP3_1WriteWrong(t *testing.T) {
	d := made(t, 4)
	writes(t, d, 3, full(5))
	for _, at := range noSectors {
		told(t, "Write to no sector", d.Write(at, full(1)), api.ErrArg)
		told(t, "Write of nothing to no sector", d.Write(at, nil), api.ErrArg)
	}
	for _, size := range badSizes {
		told(t, "Write of no sector's bytes", d.Write(3, make([]byte, size)), api.ErrArg)
	}
	told(t, "Write of nil", d.Write(3, nil), api.ErrArg)
	is(t, "Held", d.Held(), 1)
	is(t, "Acts", d.Acts(), 1)
	reads(t, "behind wrong writes", d, 3, full(5))
	for at := range 3 {
		reads(t, "behind wrong writes", d, at, full(0))
	}
}

func TestP3_1ReadWrong(t *testing.T) {
	d := made(t, 4)
	for _, at := range noSectors {
		unread(t, "no sector", d, at, api.ErrArg)
	}
}

func TestP3_1LastWritten(t *testing.T) {
	d := made(t, 3)
	writes(t, d, 1, full(1))
	reads(t, "held", d, 1, full(1))
	writes(t, d, 1, full(2))
	writes(t, d, 2, full(3))
	reads(t, "held twice", d, 1, full(2))
	is(t, "Held", d.Held(), 3)
	flushes(t, d)
	reads(t, "safe", d, 1, full(2))
	reads(t, "safe", d, 2, full(3))
	reads(t, "never written", d, 0, full(0))
	writes(t, d, 1, full(4))
	reads(t, "held above what is safe", d, 1, full(4))
	reads(t, "safe beside it", d, 2, full(3))
	is(t, "Held", d.Held(), 1)
}

func TestP3_1FlushInOrder(t *testing.T) {
	d := made(t, 2)
	for i := range 5 {
		writes(t, d, 0, counted(i))
		writes(t, d, 1, counted(100-i))
	}
	flushes(t, d)
	for _, x := range []*vdisk.Disk{d, d.Crash(), d.Crash(1, 1, 1)} {
		reads(t, "the last write", x, 0, counted(4))
		reads(t, "the last write", x, 1, counted(96))
	}
	flushes(t, d)
	reads(t, "a Flush of nothing", d, 0, counted(4))
}

func TestP3_1BytesAreNotShared(t *testing.T) {
	d := made(t, 2)
	roomy := append(make([]byte, 0, 100), counted(1)...)
	writes(t, d, 0, roomy)
	if !bytes.Equal(roomy, counted(1)) || !bytes.Equal(roomy[64:100], make([]byte, 36)) {
		t.Errorf("bytes that were handed in changed: %v", roomy[:100])
	}
	clear(roomy)
	reads(t, "written bytes turned", d, 0, counted(1))
	for _, when := range []string{"held", "safe"} {
		got, _ := d.Read(0)
		clear(got)
		_ = append(got[:0], full(9)...)
		reads(t, when+", read bytes turned", d, 0, counted(1))
		reads(t, when+", its neighbour", d, 1, full(0))
		flushes(t, d)
	}
}

func TestP3_1Fault(t *testing.T) {
	d := made(t, 4)
	writes(t, d, 3, full(1))
	told(t, "Fault of the last sector", d.Fault(3, true), api.OK)
	unread(t, "with a fault", d, 3, api.ErrRead)
	told(t, "the same Fault again", d.Fault(3, true), api.OK)
	unread(t, "with a fault twice", d, 3, api.ErrRead)
	for at := range 3 {
		reads(t, "beside a fault", d, at, full(0))
	}
	writes(t, d, 3, full(2))
	flushes(t, d)
	unread(t, "written with a fault", d, 3, api.ErrRead)
	told(t, "no Fault", d.Fault(3, false), api.OK)
	reads(t, "without a fault", d, 3, full(2))
	told(t, "no Fault where none was", d.Fault(0, false), api.OK)
	reads(t, "without a fault", d, 0, full(0))
	is(t, "Acts", d.Acts(), 3)
}

func TestP3_1FaultWrong(t *testing.T) {
	d := made(t, 4)
	for _, at := range noSectors {
		told(t, "Fault of no sector", d.Fault(at, true), api.ErrArg)
		told(t, "no Fault of no sector", d.Fault(at, false), api.ErrArg)
		unread(t, "no sector", d, at, api.ErrArg)
	}
	for at := range 4 {
		reads(t, "behind wrong faults", d, at, full(0))
	}
}

// elder is a disk worked out the long way: all that was ever written, in order,
// and how much of it is safe.
type elder struct {
	at   []int
	data [][]byte
	safe int
}

// last is what was written to a sector last.
func (m *elder) last(at int) []byte {
	for i := len(m.at) - 1; i >= 0; i-- {
		if m.at[i] == at {
			return m.data[i]
		}
	}
	return full(0)
}

func TestP3_1AgainstElder(t *testing.T) {
	const sectors = 5
	d, m := made(t, sectors), &elder{}
	x := uint32(1)
	for range 3000 {
		x = x*1664525 + 1013904223
		at, kind := int(x>>8)%sectors, int(x>>20)%8
		if kind == 0 {
			flushes(t, d)
			m.safe = len(m.at)
		} else {
			b := counted(int(x >> 24))
			writes(t, d, at, b)
			m.at, m.data = append(m.at, at), append(m.data, b)
		}
		is(t, "Held", d.Held(), len(m.at)-m.safe)
		for at := range sectors {
			reads(t, "as the elder one", d, at, m.last(at))
		}
	}
}

func TestP3_2Acts(t *testing.T) {
	d := made(t, 2)
	writes(t, d, 0, full(1))
	is(t, "Acts behind a Write", d.Acts(), 1)
	flushes(t, d)
	is(t, "Acts behind a Flush", d.Acts(), 2)
	d.Write(2, full(1))
	d.Write(-1, full(1))
	d.Write(0, full(1)[:63])
	d.Read(0)
	d.Read(2)
	d.Fault(0, true)
	d.Fault(0, false)
	d.Fuse(9)
	d.Crash(1)
	d.Sectors()
	d.Held()
	d.Off()
	is(t, "Acts behind what is none", d.Acts(), 2)
	flushes(t, d)
	is(t, "Acts behind a Flush of nothing", d.Acts(), 3)
	is(t, "Off", d.Off(), false)
}

func TestP3_2Fuse(t *testing.T) {
	for n := range 6 {
		for _, flush := range []bool{false, true} {
			d := made(t, 8)
			d.Fuse(n)
			for i := range n {
				writes(t, d, i, full(byte(i+1)))
				told(t, "Write of no sector", d.Write(8, full(9)), api.ErrArg)
				unread(t, "no sector", d, 8, api.ErrArg)
				reads(t, "with power", d, i, full(byte(i+1)))
				is(t, "Off ahead of the end", d.Off(), false)
			}
			told(t, "the act that finds no power", ask(d, flush), api.ErrOff)
			is(t, "Off", d.Off(), true)
			is(t, "Held", d.Held(), n)
			is(t, "Acts", d.Acts(), n+1)
			for i := range 8 {
				reads(t, "what it would leave", d.Crash(), i, full(0))
			}
			stands(t, d, n)
		}
	}
}

// ask asks for a Flush, or for a Write that is not wrong.
func ask(d *vdisk.Disk, flush bool) api.Errno {
	if flush {
		return d.Flush()
	}
	return d.Write(7, full(99))
}

// stands fails unless the power of a disk of 8 is off, and stays so, and its n
// held writes stand as they were.
func stands(t *testing.T, d *vdisk.Disk, n int) {
	t.Helper()
	acts := d.Acts()
	for i, fuse := range []int{-1, 0, 1, 50, math.MaxInt, math.MinInt} {
		told(t, "Write without power", d.Write(0, full(77)), api.ErrOff)
		told(t, "Flush without power", d.Flush(), api.ErrOff)
		told(t, "Write of no sector without power", d.Write(8, full(77)), api.ErrArg)
		told(t, "Write of no bytes without power", d.Write(0, nil), api.ErrArg)
		unread(t, "without power", d, 0, api.ErrOff)
		unread(t, "without power", d, 7, api.ErrOff)
		unread(t, "no sector, without power", d, 8, api.ErrArg)
		is(t, "Off", d.Off(), true)
		is(t, "Held", d.Held(), n)
		is(t, "Acts", d.Acts(), acts+2*(i+1))
		is(t, "Sectors", d.Sectors(), 8)
		d.Fuse(fuse)
		is(t, "Off behind a Fuse", d.Off(), true)
	}
	c := d.Crash(1, 1, 1, 1, 1, 1, 1, 1)
	for i := range n {
		reads(t, "what was held", c, i, full(byte(i+1)))
	}
	for i := n; i < 8; i++ {
		reads(t, "what was not done", c, i, full(0))
	}
}

func TestP3_2FlushesCountToo(t *testing.T) {
	d := made(t, 2)
	d.Fuse(3)
	flushes(t, d)
	writes(t, d, 0, full(1))
	flushes(t, d)
	is(t, "Off", d.Off(), false)
	told(t, "Flush", d.Flush(), api.ErrOff)
	is(t, "Off", d.Off(), true)
	reads(t, "what was flushed", d.Crash(), 0, full(1))
}

func TestP3_2NoFlushWithoutPower(t *testing.T) {
	d := made(t, 2)
	writes(t, d, 0, full(1))
	d.Fuse(0)
	is(t, "Off ahead of an act", d.Off(), false)
	reads(t, "ahead of an act", d, 0, full(1))
	told(t, "Flush", d.Flush(), api.ErrOff)
	is(t, "Held", d.Held(), 1)
	reads(t, "what was not flushed", d.Crash(0), 0, full(0))
	reads(t, "what was held", d.Crash(1), 0, full(1))
}

func TestP3_2NoFuse(t *testing.T) {
	for _, n := range []int{-1, -2, -192, math.MinInt} {
		d := made(t, 2)
		d.Fuse(n)
		for range 300 {
			told(t, "Write", d.Write(0, full(1)), api.OK)
			told(t, "Flush", d.Flush(), api.OK)
		}
		is(t, "Off", d.Off(), false)
		is(t, "Acts", d.Acts(), 600)
	}
}

func TestP3_2LaterFuse(t *testing.T) {
	for _, first := range []int{-1, 0, 1, 2, 7, math.MaxInt, math.MinInt} {
		d := made(t, 2)
		d.Fuse(first)
		if first != 0 {
			flushes(t, d)
		}
		d.Fuse(2)
		flushes(t, d)
		flushes(t, d)
		is(t, "Off", d.Off(), false)
		told(t, "behind the later fuse", d.Flush(), api.ErrOff)
		is(t, "Off", d.Off(), true)

		d = made(t, 2)
		d.Fuse(first)
		d.Fuse(-3)
		for range 20 {
			flushes(t, d)
		}
		is(t, "Off without a fuse", d.Off(), false)

		d = made(t, 2)
		d.Fuse(first)
		d.Fuse(0)
		told(t, "behind a later fuse of 0", d.Flush(), api.ErrOff)
	}
}

func TestP3_2OffAheadOfFault(t *testing.T) {
	d := made(t, 2)
	told(t, "Fault", d.Fault(0, true), api.OK)
	d.Fuse(0)
	unread(t, "a fault, with power", d, 0, api.ErrRead)
	told(t, "Flush", d.Flush(), api.ErrOff)
	unread(t, "a fault, without power", d, 0, api.ErrOff)
	told(t, "Fault without power", d.Fault(1, true), api.OK)
	told(t, "no Fault without power", d.Fault(0, false), api.OK)
	told(t, "Fault of no sector without power", d.Fault(2, true), api.ErrArg)
	is(t, "Acts", d.Acts(), 1)
	c := d.Crash()
	reads(t, "no fault any more", c, 0, full(0))
	unread(t, "a fault that came without power", c, 1, api.ErrRead)
}

func TestP3_2NilDisk(t *testing.T) {
	var d *vdisk.Disk
	for _, n := range []int{-1, 0, 1} {
		d.Fuse(n)
		told(t, "Write", d.Write(n, full(1)), api.ErrArg)
		told(t, "Write of nil", d.Write(n, nil), api.ErrArg)
		unread(t, "nil", d, n, api.ErrArg)
		told(t, "Flush", d.Flush(), api.ErrArg)
		told(t, "Fault", d.Fault(n, true), api.ErrArg)
	}
	is(t, "Sectors", d.Sectors(), 0)
	is(t, "Held", d.Held(), 0)
	is(t, "Acts", d.Acts(), 0)
	is(t, "Off", d.Off(), true)
	if d.Crash() != nil || d.Crash(1, 2) != nil {
		t.Error("a crash of nil is a disk")
	}
}

func TestP3_3Examples(t *testing.T) {
	d := made(t, 1)
	writes(t, d, 0, full(1))
	reads(t, "Crash(1)", d.Crash(1), 0, full(1))
	reads(t, "Crash()", d.Crash(), 0, full(0))
	reads(t, "Crash(5)", d.Crash(5), 0, cut(1, full(1), full(0)))
}

func TestP3_3EachPick(t *testing.T) {
	was, now := counted(1), counted(130)
	d := made(t, 2)
	writes(t, d, 1, was)
	flushes(t, d)
	writes(t, d, 1, now)
	for p := range 192 {
		want := was
		switch p % 3 {
		case 1:
			want = now
		case 2:
			want = cut(p/3, now, was)
		}
		for _, pick := range []int{p, p + 192, p + 192*1000, p - 192, p - 192*1000} {
			c := d.Crash(pick)
			reads(t, "the sector", c, 1, want)
			reads(t, "its neighbour", c, 0, full(0))
		}
	}
}

func TestP3_3FarPicks(t *testing.T) {
	was, now := full(8), full(9)
	d := made(t, 1)
	writes(t, d, 0, was)
	flushes(t, d)
	writes(t, d, 0, now)
	reads(t, "-1 is 191", d.Crash(-1), 0, cut(63, now, was))
	reads(t, "-190 is 2", d.Crash(-190), 0, was)
	reads(t, "-191 is 1", d.Crash(-191), 0, now)
	reads(t, "-192 is 0", d.Crash(-192), 0, was)
	reads(t, "191", d.Crash(191), 0, cut(63, now, was))
	reads(t, "192 is 0", d.Crash(192), 0, was)
	reads(t, "193 is 1", d.Crash(193), 0, now)
	// 2^63 - 1 modulo 192 is 127, and -2^63 modulo 192 is 64.
	reads(t, "the greatest pick", d.Crash(math.MaxInt), 0, now)
	reads(t, "the least pick", d.Crash(math.MinInt), 0, now)
	// 2^63 - 3 modulo 192 is 125, and -2^63 + 1 modulo 192 is 65.
	reads(t, "nearly the greatest pick", d.Crash(math.MaxInt-2), 0, cut(41, now, was))
	reads(t, "nearly the least pick", d.Crash(math.MinInt+1), 0, cut(21, now, was))
}

func TestP3_3PicksByWrite(t *testing.T) {
	d := made(t, 4)
	for at := range 4 {
		writes(t, d, at, full(byte(at+1)))
	}
	for set := range 16 {
		var picks []int
		for at := range 4 {
			picks = append(picks, set>>at&1)
		}
		for _, p := range [][]int{picks, append(slices.Clone(picks), 1, 5, 1)} {
			c := d.Crash(p...)
			for at := range 4 {
				reads(t, "lost or whole", c, at, full(byte((at+1)*(set>>at&1))))
			}
		}
	}
	for n := range 5 {
		c := d.Crash([]int{1, 1, 1, 1}[:n]...)
		for at := range 4 {
			want := full(0)
			if at < n {
				want = full(byte(at + 1))
			}
			reads(t, "picks are missing", c, at, want)
		}
	}
}

func TestP3_3OneSectorInOrder(t *testing.T) {
	d := made(t, 1)
	writes(t, d, 0, full(1))
	flushes(t, d)
	for i := range 3 {
		writes(t, d, 0, full(byte(i+2)))
	}
	for set := range 8 {
		want := full(1)
		for i := range 3 {
			if set>>i&1 == 1 {
				want = full(byte(i + 2))
			}
		}
		reads(t, "the last one that is there", d.Crash(set&1, set>>1&1, set>>2&1), 0, want)
	}
	// What stood there ahead of a torn write is what the writes ahead of it left.
	reads(t, "torn above a whole one", d.Crash(1, 32), 0, cut(10, full(3), full(2)))
	reads(t, "torn above a lost one", d.Crash(0, 32), 0, cut(10, full(3), full(1)))
	reads(t, "torn below a whole one", d.Crash(32, 1), 0, full(3))
	reads(t, "torn below a lost one", d.Crash(32, 0), 0, cut(10, full(2), full(1)))
	reads(t, "torn above two", d.Crash(1, 1, 95), 0, cut(31, full(4), full(3)))
}

func TestP3_3OneIsTorn(t *testing.T) {
	d := made(t, 4)
	for at := range 4 {
		writes(t, d, at, full(byte(at+1)))
	}
	for first := range 64 {
		// Torn with no byte there is torn, too.
		c := d.Crash(0, 3*first+2, 191, 35)
		reads(t, "lost", c, 0, full(0))
		reads(t, "torn", c, 1, cut(first, full(2), full(0)))
		reads(t, "would be torn", c, 2, full(0))
		reads(t, "would be torn", c, 3, full(0))
	}
	c := d.Crash(35, 1, 191, 1)
	reads(t, "torn", c, 0, cut(11, full(1), full(0)))
	reads(t, "whole behind it", c, 1, full(2))
	reads(t, "would be torn", c, 2, full(0))
	reads(t, "whole behind them", c, 3, full(4))
	reads(t, "the next crash tears anew", d.Crash(0, 0, 0, 191), 3, cut(63, full(4), full(0)))
}

func TestP3_3OneIsTornOfASector(t *testing.T) {
	d := made(t, 1)
	writes(t, d, 0, full(1))
	writes(t, d, 0, full(2))
	writes(t, d, 0, full(3))
	reads(t, "the first one", d.Crash(35, 191, 5), 0, cut(11, full(1), full(0)))
	reads(t, "the first one, of no bytes", d.Crash(2, 191, 5), 0, full(0))
	reads(t, "the second one", d.Crash(1, 35, 191), 0, cut(11, full(2), full(1)))
}

func TestP3_3AnotherDisk(t *testing.T) {
	d := made(t, 3)
	writes(t, d, 0, full(1))
	flushes(t, d)
	writes(t, d, 1, full(2))
	writes(t, d, 2, full(3))
	told(t, "Fault", d.Fault(2, true), api.OK)
	d.Fuse(0)
	told(t, "Flush", d.Flush(), api.ErrOff)

	c := d.Crash(1, 1)
	is(t, "Sectors", c.Sectors(), 3)
	is(t, "Held", c.Held(), 0)
	is(t, "Acts", c.Acts(), 0)
	is(t, "Off", c.Off(), false)
	reads(t, "what was safe", c, 0, full(1))
	reads(t, "what was whole", c, 1, full(2))
	unread(t, "the same fault", c, 2, api.ErrRead)
	for range 20 {
		told(t, "an act without a fuse", c.Flush(), api.OK)
	}
	writes(t, c, 1, full(9))
	told(t, "no Fault", c.Fault(2, false), api.OK)
	reads(t, "what was whole below a fault", c, 2, full(3))
	told(t, "Fault", c.Fault(0, true), api.OK)
	is(t, "Acts of its own", c.Acts(), 21)

	is(t, "Held of the first one", d.Held(), 2)
	is(t, "Acts of the first one", d.Acts(), 5)
	is(t, "Off of the first one", d.Off(), true)
	again := d.Crash(0, 1)
	reads(t, "safe, without the other's fault", again, 0, full(1))
	reads(t, "lost this time", again, 1, full(0))
	unread(t, "its own fault", again, 2, api.ErrRead)
	reads(t, "safe on the other one is what it took", c.Crash(), 1, full(2))
}

func TestP3_3NotCutOff(t *testing.T) {
	d := made(t, 2)
	writes(t, d, 0, full(1))
	d.Fuse(5)
	c := d.Crash(1)
	is(t, "Off", d.Off(), false)
	is(t, "Held", d.Held(), 1)
	is(t, "Acts", d.Acts(), 1)
	writes(t, d, 0, full(2))
	reads(t, "goes on", d, 0, full(2))
	reads(t, "is another disk", c, 0, full(1))
	for range 4 {
		flushes(t, d)
	}
	told(t, "its fuse stays", d.Flush(), api.ErrOff)
	reads(t, "what a crash left is safe there", c.Crash(), 0, full(1))
}

func TestP3_3LeavesPicks(t *testing.T) {
	d := made(t, 1)
	writes(t, d, 0, full(1))
	writes(t, d, 0, full(2))
	picks := []int{-191, 400, 7, 8}
	d.Crash(picks[:1]...)
	d.Crash(picks...)
	if !slices.Equal(picks, []int{-191, 400, 7, 8}) {
		t.Errorf("picks that were handed in changed: %v", picks)
	}
	reads(t, "only the picks that were handed in", d.Crash(picks[:1]...), 0, full(1))
}

// left is what a crash leaves of a sector, worked out byte by byte.
func (m *elder) left(at int, picks []int) []byte {
	b := (&elder{at: m.at[:m.safe], data: m.data[:m.safe]}).last(at)
	b = bytes.Clone(b)
	torn := false
	for i := m.safe; i < len(m.at); i++ {
		p := 0
		if i-m.safe < len(picks) {
			p = picks[i-m.safe]
		}
		for ; p < 0; p += 192 {
		}
		for ; p >= 192; p -= 192 {
		}
		first := p%3 == 2 && !torn
		torn = torn || first
		for j := range b {
			if m.at[i] == at && (p%3 == 1 || first && 3*(j+1)+2 <= p) {
				b[j] = m.data[i][j]
			}
		}
	}
	return b
}

func TestP3_3AgainstElder(t *testing.T) {
	const sectors = 3
	x := uint32(7)
	next := func(n int) int {
		x = x*1664525 + 1013904223
		return int(x>>8) % n
	}
	for range 400 {
		d, m := made(t, sectors), &elder{}
		for range next(12) {
			if next(6) == 0 {
				flushes(t, d)
				m.safe = len(m.at)
				continue
			}
			at, b := next(sectors), counted(next(256))
			writes(t, d, at, b)
			m.at, m.data = append(m.at, at), append(m.data, b)
		}
		for range 5 {
			var picks []int
			for range next(12) {
				picks = append(picks, next(800)-400)
			}
			c := d.Crash(picks...)
			for at := range sectors {
				reads(t, "as the elder one", c, at, m.left(at, picks))
			}
		}
	}
}

func TestP3_4SafeStays(t *testing.T) {
	const sectors = 6
	d := made(t, sectors)
	for at := range sectors {
		writes(t, d, at, counted(at))
	}
	flushes(t, d)
	for i := range 4 {
		writes(t, d, 1, full(byte(i)))
		writes(t, d, 4, full(byte(i)))
	}
	d.Fuse(3)
	for when := range 5 {
		for p := range 192 {
			c := d.Crash(p, 191-p, p*7, -p, p, p, p, p, p, p)
			for _, at := range []int{0, 2, 3, 5} {
				reads(t, "safe, and nothing held there", c, at, counted(at))
				reads(t, "safe behind two crashes", c.Crash(p, p), at, counted(at))
			}
		}
		want := api.OK
		if when >= 3 {
			want = api.ErrOff
		}
		told(t, "Write", d.Write(1, full(9)), want)
	}
	is(t, "Off", d.Off(), true)
}

func TestP3_4WhatAFlushMadeSafe(t *testing.T) {
	d := made(t, 4096)
	writes(t, d, 4095, counted(1))
	writes(t, d, 0, counted(2))
	reads(t, "not safe yet", d.Crash(), 4095, full(0))
	flushes(t, d)
	writes(t, d, 0, counted(3))
	for p := range 192 {
		c := d.Crash(p, p, p)
		reads(t, "the last sector", c, 4095, counted(1))
		reads(t, "never written", c, 1, full(0))
	}
	reads(t, "where something is held", d.Crash(1), 0, counted(3))
	reads(t, "where what was held is lost", d.Crash(0), 0, counted(2))
}
