package record_test

import (
	"bytes"
	"hash/crc32"
	"math"
	"slices"
	"testing"

	"keelson/api"
	"keelson/record"
)

// far is what no number of a record is; some of it is one again, if only its
// lowest four bytes are looked at.
var far = []int{
	-1, -2, -255, -256, -1 << 31, -1<<31 + 1, -1<<32 + 1, -1<<32 + 258, -1<<62 + 1, 1 << 32, 1<<32 + 1, 1<<32 + 258,
	1<<40 + 3, math.MaxInt, math.MaxInt - 1, math.MinInt, math.MinInt + 1, math.MinInt + 258,
}

// block is 64 bytes, all of them others than those of another seed.
func block(seed int) []byte {
	b := make([]byte, 64)
	for i := range b {
		b[i] = byte(seed + 7*i)
	}
	return b
}

// blocks are so many of them.
func blocks(n int) [][]byte {
	var l [][]byte
	for k := range n {
		l = append(l, block(37*k+1))
	}
	return l
}

// of is a record of these items, with the blocks that they have.
func of(l ...api.Item) api.Record {
	return api.Record{Mount: 2, LSN: 258, Prev: 1<<32 - 2, Items: l, Blocks: blocks(howMany(l))}
}

// some is an ordinary record.
func some() api.Record {
	return of(write(5), mark(9), move(6, 300))
}

// full is a record of six items, five blocks.
func full() api.Record {
	return of(write(5), move(6, 300), put(63), drop(3, 61), write(0), put(1))
}

func write(block int) api.Item      { return api.Item{Kind: api.Write, Block: block} }
func trim(block, n int) api.Item    { return api.Item{Kind: api.Trim, Block: block, Count: n} }
func mark(epoch int) api.Item       { return api.Item{Kind: api.Mark, Value: epoch} }
func move(block, from int) api.Item { return api.Item{Kind: api.Move, Block: block, Value: from} }
func put(block int) api.Item        { return api.Item{Kind: api.Put, Block: block} }
func drop(block, n int) api.Item    { return api.Item{Kind: api.Drop, Block: block, Count: n} }
func next(seg int) api.Item         { return api.Item{Kind: api.Next, Value: seg} }

// every is an item of each kind, those with a block first.
func every() []api.Item {
	return []api.Item{write(5), move(6, 300), put(63), trim(0, 64), mark(9), drop(3, 61), next(31)}
}

// bads are items that may not be; each could be laid in seven bytes.
func bads() []api.Item {
	return []api.Item{
		{}, {Kind: 8}, {Kind: 255}, write(64), {Kind: 1, Count: 1}, {Kind: 1, Value: 1}, trim(60, 5), trim(0, 0),
		mark(0), mark(1 << 31), {Kind: 3, Block: 1, Value: 1}, move(5, 0), move(5, 4096), move(64, 1),
		put(64), {Kind: 5, Value: 1}, drop(0, 65), next(32), {Kind: 7, Block: 1},
	}
}

// hasBlock tells by its kind whether an item has a block.
func hasBlock(i api.Item) bool {
	return i.Kind == 1 || i.Kind == 4 || i.Kind == 5
}

// howMany of the items have a block.
func howMany(l []api.Item) int {
	n := 0
	for _, i := range l {
		if hasBlock(i) {
			n++
		}
	}
	return n
}

// mixes are all choices of one to six items with and without a block, of all kinds.
func mixes() [][]api.Item {
	with, without := every()[:3], every()[3:]
	var all [][]api.Item
	for n := 1; n <= 6; n++ {
		for bits := range 1 << n {
			var l []api.Item
			for k := range n {
				if bits>>k&1 == 1 {
					l = append(l, with[(k+bits)%3])
				} else {
					l = append(l, without[(k+bits)%4])
				}
			}
			all = append(all, l)
		}
	}
	return all
}

// num is a number as so many bytes, the least first.
func num(width, n int) []byte {
	var b []byte
	for k := range width {
		b = append(b, byte(n>>(8*k)))
	}
	return b
}

// castagnoli is the library's sum of some parts.
func castagnoli(parts ...[]byte) int {
	return int(crc32.Checksum(slices.Concat(parts...), crc32.MakeTable(crc32.Castagnoli)))
}

// sealed is up to 60 bytes, zeros behind them, a sum that holds, and the blocks.
func sealed(l []byte, blocks ...[]byte) []byte {
	all := slices.Concat(append([][]byte{make([]byte, 64)}, blocks...)...)
	copy(all[:60], l)
	copy(all[60:], num(4, castagnoli(all[:60], all[64:])))
	return all
}

// lead is what a record's summary has ahead of the zeros, by hand, also of one that
// may not be, with those counts.
func lead(r api.Record, items, blocks int) []byte {
	b := slices.Concat([]byte("KR"), num(4, r.Mount), num(4, r.LSN), num(4, r.Prev), []byte{byte(items), byte(blocks)})
	for _, i := range r.Items {
		b = append(b, byte(i.Kind), byte(i.Block), byte(i.Count))
		b = append(b, num(4, i.Value)...)
	}
	return b
}

// laid is a record's bytes by hand, also of one that may not be.
func laid(r api.Record) []byte {
	return sealed(lead(r, len(r.Items), len(r.Blocks)), r.Blocks...)
}

// like tells whether two records have the same.
func like(a, b api.Record) bool {
	return a.Mount == b.Mount && a.LSN == b.LSN && a.Prev == b.Prev &&
		slices.Equal(a.Items, b.Items) && slices.EqualFunc(a.Blocks, b.Blocks, bytes.Equal)
}

// may fails unless a record may be, and has these many sectors.
func may(t *testing.T, r api.Record) {
	t.Helper()
	b, sum, e := record.Encode(r)
	if !record.May(r) || record.Len(r) != 1+len(r.Blocks) || len(b) != 64+64*len(r.Blocks) || e != api.OK {
		t.Errorf("%v: May %t, Len %d, Encode %d bytes, sum %d and error %d, want true and %d blocks",
			r, record.May(r), record.Len(r), len(b), sum, e, len(r.Blocks))
	}
}

// mayNot fails unless a record may not be, has no sectors, and no bytes.
func mayNot(t *testing.T, what string, r api.Record) {
	t.Helper()
	b, sum, e := record.Encode(r)
	if record.May(r) || record.Len(r) != 0 || len(b) > 0 || sum != 0 || e != api.ErrArg {
		t.Errorf("%s (%v): May %t, Len %d, Encode %d bytes, sum %d and error %d, want false, 0, none, 0 and %d",
			what, r, record.May(r), record.Len(r), len(b), sum, e, api.ErrArg)
	}
}

// encoded fails unless a record has those bytes, and their sum is told.
func encoded(t *testing.T, r api.Record, want []byte) {
	t.Helper()
	b, sum, e := record.Encode(r)
	if !bytes.Equal(b, want) || sum != castagnoli(want[:60], want[64:]) || e != api.OK {
		t.Errorf("Encode(%v):\n got % x, sum %#x and error %d\nwant % x", r, b, sum, e, want)
	}
}

// bytesOf is the bytes of a record that may be, and their sum.
func bytesOf(t *testing.T, r api.Record) ([]byte, int) {
	t.Helper()
	b, sum, e := record.Encode(r)
	if len(b) != 64+64*len(r.Blocks) || e != api.OK {
		t.Fatalf("Encode(%v): got %d bytes and error %d", r, len(b), e)
	}
	return b, sum
}

// isThat fails unless Decode answers that record, and the sum that stands there.
func isThat(t *testing.T, what string, b []byte, want api.Record) {
	t.Helper()
	r, sum, e := record.Decode(b)
	if !like(r, want) || e != api.OK || !bytes.Equal(num(4, sum), b[60:64]) || sum>>32 != 0 {
		t.Errorf("Decode of %s:\n got %v, sum %#x and error %d\nwant %v, sum % x", what, r, sum, e, want, b[60:64])
	}
}

// isNone fails unless Decode refuses the bytes.
func isNone(t *testing.T, what string, b []byte) {
	t.Helper()
	r, sum, e := record.Decode(b)
	if !like(r, api.Record{}) || sum != 0 || e != api.ErrBad {
		t.Errorf("Decode of %s (%d bytes, % x): got %v, sum %#x and error %d, want zeros and %d",
			what, len(b), b[:min(len(b), 64)], r, sum, e, api.ErrBad)
	}
}

// again fails unless a record is decoded from its bytes as it was, with the sum
// that was told.
func again(t *testing.T, r api.Record) {
	t.Helper()
	b, sum := bytesOf(t, r)
	got, told, e := record.Decode(b)
	if !like(got, r) || told != sum || e != api.OK {
		t.Errorf("Decode of Encode:\n got %v, sum %#x and error %d\nwant %v, sum %#x", got, told, e, r, sum)
	}
}

// sizes fails unless Size answers that.
func sizes(t *testing.T, what string, summary []byte, want int) {
	t.Helper()
	if got := record.Size(summary); got != want {
		t.Errorf("Size of %s (%d bytes): got %d, want %d", what, len(summary), got, want)
	}
}

// dice is numbers that look like chance, the same ones each time.
type dice uint64

// roll is the next one of 0 to n - 1; n is 2^32 at most.
func (d *dice) roll(n int) int {
	*d = *d*6364136223846793005 + 1442695040888963407
	return int(*d>>31) % n
}

func TestP7_1Bounds(t *testing.T) {
	for _, n := range []int{1, 2, 255, 256, 65536, 1 << 24, 1<<31 - 2, 1<<31 - 1} {
		r := some()
		r.Mount = n
		may(t, r)
		r.LSN = n
		may(t, r)
		r.Mount = 3
		may(t, r)
	}
	for _, n := range []int{0, 1, 2, 255, 256, 1<<31 - 1, 1 << 31, 1<<31 + 1, 1<<32 - 2, 1<<32 - 1} {
		r := some()
		r.Prev = n
		may(t, r)
	}
}

func TestP7_1OutOfBounds(t *testing.T) {
	for _, n := range append(far, 0, 1<<31, 1<<31+1, 1<<32-1) {
		r := some()
		r.Mount = n
		mayNot(t, "Mount", r)
		r = some()
		r.LSN = n
		mayNot(t, "LSN", r)
	}
	for _, n := range far {
		r := some()
		r.Prev = n
		mayNot(t, "Prev", r)
	}
	mayNot(t, "zeros", api.Record{})
	mayNot(t, "items alone", api.Record{Items: []api.Item{mark(1)}})
	mayNot(t, "numbers alone", api.Record{Mount: 1, LSN: 1})
}

func TestP7_1HowManyItems(t *testing.T) {
	for _, i := range every() {
		for n := 1; n <= 6; n++ {
			may(t, of(slices.Repeat([]api.Item{i}, n)...))
		}
		for _, n := range []int{7, 8, 12, 255, 256, 257, 262, 70000} {
			mayNot(t, "too many items", of(slices.Repeat([]api.Item{i}, n)...))
		}
	}
	mayNot(t, "no items", of())
	r := of()
	r.Items, r.Blocks = []api.Item{}, [][]byte{}
	mayNot(t, "empty lists", r)
	r.Blocks = blocks(1)
	mayNot(t, "no items, but a block", r)
}

// Among any number of items, at each place, one that may not be: with no block for
// it, and with one.
func TestP7_1ItemsThatMayNotBe(t *testing.T) {
	wrong := append(bads(), write(-1), write(256+5), put(math.MinInt), move(6, -1), move(6, 1<<32+300), trim(-1, 2), mark(-1), mark(1<<32+9), next(-1))
	for _, bad := range wrong {
		for n := 1; n <= 6; n++ {
			for at := range n {
				l := every()[:n]
				l[at] = bad
				r := of(l...)
				for k := range 7 {
					r.Blocks = blocks(k)
					mayNot(t, "an item that may not be", r)
				}
			}
		}
	}
}

func TestP7_1HowManyBlocks(t *testing.T) {
	for _, l := range mixes() {
		for n := range 9 {
			r := of(l...)
			r.Blocks = blocks(n)
			if n == howMany(l) {
				may(t, r)
			} else {
				mayNot(t, "blocks", r)
			}
		}
	}
	r := some()
	for _, n := range []int{256, 258, 70000} {
		r.Blocks = blocks(n)
		mayNot(t, "many blocks", r)
	}
}

func TestP7_1BlocksOfOtherLengths(t *testing.T) {
	for _, n := range []int{0, 1, 32, 63, 64, 65, 127, 128, 192, 320, 64 + 256, 65536, 70000} {
		for _, r := range []api.Record{of(put(3)), some(), full()} {
			for k := range r.Blocks {
				own := r.Blocks[k]
				r.Blocks[k] = make([]byte, n, n+100)
				if n == 64 {
					may(t, r)
				} else {
					mayNot(t, "a block of another length", r)
				}
				r.Blocks[k] = own
			}
		}
	}
	r := some()
	r.Blocks = [][]byte{nil, nil}
	mayNot(t, "blocks of nothing", r)
	r.Blocks = [][]byte{make([]byte, 63), make([]byte, 65)}
	mayNot(t, "blocks that have 128 bytes together", r)
	r.Blocks = [][]byte{block(1)[:64:64], block(2)[:0]}
	mayNot(t, "a block with all its bytes in its spare room", r)
}

func TestP7_1Len(t *testing.T) {
	for _, one := range []struct {
		r    api.Record
		want int
	}{
		{of(mark(1)), 1}, {of(next(0), trim(0, 1), drop(63, 1)), 1}, {of(write(0)), 2}, {of(move(0, 1)), 2}, {of(put(0)), 2},
		{of(write(0), mark(1)), 2}, {some(), 3}, {full(), 6}, {of(slices.Repeat([]api.Item{write(63)}, 6)...), 7},
	} {
		if got := record.Len(one.r); got != one.want {
			t.Errorf("Len(%v): got %d, want %d", one.r, got, one.want)
		}
	}
}

func TestP7_2Example(t *testing.T) {
	r := of(write(9), mark(258))
	b, _ := bytesOf(t, r)
	if len(b) != 128 {
		t.Errorf("a Write and a Mark: got %d bytes, want 128", len(b))
	}
	isThat(t, "a Write and a Mark", b, r)
}

func TestP7_2Bytes(t *testing.T) {
	r := api.Record{Mount: 3, LSN: 258, Prev: 4278255360, Items: []api.Item{write(9), mark(67305985)}, Blocks: [][]byte{bytes.Repeat([]byte{7}, 64)}}
	want := slices.Concat([]byte{
		'K', 'R', 3, 0, 0, 0, 2, 1, 0, 0, 0, 255, 0, 255, 2, 1,
		1, 9, 0, 0, 0, 0, 0, 3, 0, 0, 1, 2, 3, 4, 0, 0,
		0, 0, 0, 0, 0, 0, 0, 0, 0, 0, 0, 0, 0, 0, 0, 0,
		0, 0, 0, 0, 0, 0, 0, 0, 0, 0, 0, 0, 0x08, 0x78, 0xc9, 0x99,
	}, bytes.Repeat([]byte{7}, 64))
	encoded(t, r, want)
	isThat(t, "bytes laid by hand", want, r)
	if _, sum := bytesOf(t, r); sum != 0x99c97808 {
		t.Errorf("sum: got %#x", sum)
	}
}

func TestP7_2BytesOfAllMixes(t *testing.T) {
	for _, l := range mixes() {
		r := of(l...)
		encoded(t, r, laid(r))
		isThat(t, "a mix", laid(r), r)
		again(t, r)
	}
}

func TestP7_2BytesAtEdges(t *testing.T) {
	nums := []int{1, 2, 255, 256, 65536, 1 << 24, 1<<31 - 2, 1<<31 - 1}
	sums := append(nums, 0, 1<<31, 1<<32-2, 1<<32-1)
	for _, mount := range nums {
		for _, lsn := range nums {
			for _, prev := range sums {
				r := some()
				r.Mount, r.LSN, r.Prev = mount, lsn, prev
				encoded(t, r, laid(r))
				isThat(t, "numbers at the edges", laid(r), r)
			}
		}
	}
	for _, i := range []api.Item{write(0), write(63), trim(0, 64), trim(63, 1), mark(1), mark(1<<31 - 1), move(0, 1), move(63, 4095), put(0), put(63), drop(0, 64), drop(63, 1), next(0), next(31)} {
		r := of(i)
		encoded(t, r, laid(r))
		again(t, r)
		r = of(slices.Repeat([]api.Item{i}, 6)...)
		encoded(t, r, laid(r))
		again(t, r)
	}
}

func TestP7_2ManyRecords(t *testing.T) {
	d := dice(1)
	all := mixes()
	for range 3000 {
		r := of(all[d.roll(len(all))]...)
		r.Mount, r.LSN, r.Prev = 1+d.roll(1<<31-1), 1+d.roll(1<<31-1), d.roll(1<<32)
		for _, b := range r.Blocks {
			for k := range b {
				b[k] = byte(d.roll(256))
			}
		}
		encoded(t, r, laid(r))
		again(t, r)
	}
}

// The same block may be there twice, or be zeros, or look like a summary.
func TestP7_2BlocksOfAnyBytes(t *testing.T) {
	b, _ := bytesOf(t, some())
	for _, l := range [][][]byte{
		{block(1), block(1)}, {make([]byte, 64), make([]byte, 64)}, {bytes.Repeat([]byte{255}, 64), make([]byte, 64)},
		{b[:64], b[64:128]}, {block(1), b[:64]}, {b[:64], b[:64]},
	} {
		r := some()
		r.Blocks = l
		encoded(t, r, laid(r))
		again(t, r)
	}
}

func TestP7_2Size(t *testing.T) {
	for items := range 256 {
		for n := range 256 {
			b := sealed(lead(some(), items, n))
			want := 0
			if items >= 1 && items <= 6 && n <= items {
				want = 1 + n
			}
			sizes(t, "these counts", b, want)
		}
	}
	for _, l := range mixes() {
		b, _ := bytesOf(t, of(l...))
		sizes(t, "a summary", b[:64], 1+howMany(l))
	}
}

// Nothing but the sign and the counts is looked at.
func TestP7_2SizeOfAnyBytes(t *testing.T) {
	for at := range 64 {
		for x := range 256 {
			b := laid(full())[:64]
			before := b[at]
			b[at] = byte(x)
			want := 6
			switch at {
			case 0, 1:
				if byte(x) != before {
					want = 0
				}
			case 14:
				if x < 5 || x > 6 {
					want = 0
				}
			case 15:
				want = 1 + x
				if x > 6 {
					want = 0
				}
			}
			sizes(t, "a summary with another byte", b, want)
		}
	}
	b := bytes.Repeat([]byte{255}, 64)
	copy(b, "KR")
	b[14], b[15] = 3, 1
	sizes(t, "no summary but for its counts", b, 2)
}

func TestP7_2SizeOfOtherLengths(t *testing.T) {
	b := append(laid(full()), make([]byte, 70000)...)
	for n := range 500 {
		want := 0
		if n == 64 {
			want = 6
		}
		sizes(t, "bytes cut", b[:n], want)
		sizes(t, "zeros", make([]byte, n), 0)
	}
	for _, n := range []int{65535, 65536, 65537, 70000} {
		sizes(t, "many bytes", b[:n], 0)
	}
	sizes(t, "nothing", nil, 0)
	sizes(t, "a block", block(1), 0)
	sizes(t, "a summary behind a byte", append([]byte{0}, b[:63]...), 0)
}

func TestP7_2OtherLengths(t *testing.T) {
	for _, r := range []api.Record{of(mark(1)), of(write(9)), some(), full(), of(slices.Repeat([]api.Item{put(1)}, 6)...)} {
		whole := len(laid(r))
		long := append(laid(r), make([]byte, 600)...)
		for n := range long {
			if n == whole {
				isThat(t, "all its bytes", long[:n], r)
			} else {
				isNone(t, "a record cut, or zeros behind it", long[:n])
			}
		}
		for _, n := range []int{65472, 65536, 65537, 65600, 70000, 70016} {
			isNone(t, "a record, and many zeros", append(laid(r), make([]byte, n-whole)...))
			isNone(t, "zeros", make([]byte, n))
		}
		isNone(t, "two of them", append(laid(r), laid(r)...))
		isNone(t, "one behind a byte", append([]byte{0}, laid(r)...))
		isNone(t, "one behind a sector", append(make([]byte, 64), laid(r)...))
	}
	isNone(t, "nothing", nil)
	isNone(t, "no bytes", []byte{})
	isNone(t, "a sign", []byte("KR"))
}

// A sector too few or too many, whose bytes have a sum that holds for them.
func TestP7_2OtherLengthsWithSum(t *testing.T) {
	r := some()
	l := lead(r, 3, 2)
	isThat(t, "as many blocks as it says", sealed(l, blocks(2)...), r)
	for n := range 12 {
		if n != 2 {
			isNone(t, "more or fewer blocks than it says", sealed(l, blocks(n)...))
		}
	}
	for n := 1; n < 64; n++ {
		isNone(t, "a block and a piece", sealed(l, block(1), block(38)[:n]))
		isNone(t, "two blocks and a piece", sealed(l, block(1), block(38), block(9)[:n]))
	}
	isNone(t, "many blocks", sealed(l, blocks(1030)...))
	isNone(t, "as many blocks, modulo 256", sealed(l, blocks(258)...))
	for n := range 64 {
		b := laid(r)[:n]
		isNone(t, "less than a summary, with a sum", append(b, num(4, castagnoli(b))...))
	}
}

func TestP7_2OtherSum(t *testing.T) {
	b := laid(some())
	for at := 60; at < 64; at++ {
		for x := 1; x < 256; x++ {
			other := bytes.Clone(b)
			other[at] ^= byte(x)
			isNone(t, "another sum", other)
		}
	}
	with := func(sum int) []byte {
		return slices.Concat(b[:60], num(4, sum), b[64:])
	}
	isThat(t, "its own sum", with(castagnoli(b[:60], b[64:])), some())
	isNone(t, "no sum", with(0))
	isNone(t, "the sum of the summary alone", with(castagnoli(b[:60])))
	isNone(t, "the sum of the summary and a block", with(castagnoli(b[:60], b[64:128])))
	isNone(t, "the sum of the blocks", with(castagnoli(b[64:])))
	isNone(t, "the sum of the blocks turned round", with(castagnoli(b[:60], b[128:], b[64:128])))
	isNone(t, "the sum of the blocks and the summary", with(castagnoli(b[64:], b[:60])))
	isNone(t, "the sum of four zeros too", with(castagnoli(b[:60], make([]byte, 4), b[64:])))
	isNone(t, "the greatest byte first", slices.Concat(b[:60], []byte{b[63], b[62], b[61], b[60]}, b[64:]))
	isNone(t, "blocks turned round", slices.Concat(b[:64], b[128:], b[64:128]))
	isNone(t, "another block", slices.Concat(b[:128], block(3)))
}

// known is the record that bytes are by hand, if their sum holds; false, if they
// are none.
func known(b []byte) (api.Record, bool) {
	four := func(at int) int {
		return int(b[at]) | int(b[at+1])<<8 | int(b[at+2])<<16 | int(b[at+3])<<24
	}
	items, n := int(b[14]), int(b[15])
	r := api.Record{Mount: four(2), LSN: four(6), Prev: four(10)}
	good := string(b[:2]) == "KR" && items >= 1 && items <= 6 && len(b) == 64+64*n
	good = good && r.Mount >= 1 && r.Mount < 1<<31 && r.LSN >= 1 && r.LSN < 1<<31
	if !good {
		return r, false
	}
	for k := range items {
		at := 16 + 7*k
		i := api.Item{Kind: int(b[at]), Block: int(b[at+1]), Count: int(b[at+2]), Value: four(at + 3)}
		r.Items = append(r.Items, i)
		good = good && fair(i)
	}
	for k := range n {
		r.Blocks = append(r.Blocks, b[64+64*k:128+64*k])
	}
	return r, good && n == howMany(r.Items) && len(bytes.Trim(b[16+7*items:60], "\x00")) == 0
}

// fair tells by hand whether an item of numbers from 0 on may be.
func fair(i api.Item) bool {
	switch i.Kind {
	case 1, 5:
		return i.Block <= 63 && i.Count == 0 && i.Value == 0
	case 2, 6:
		return i.Count >= 1 && i.Block+i.Count <= 64 && i.Value == 0
	case 3:
		return i.Block == 0 && i.Count == 0 && i.Value >= 1 && i.Value < 1<<31
	case 4:
		return i.Block <= 63 && i.Count == 0 && i.Value >= 1 && i.Value <= 4095
	case 7:
		return i.Block == 0 && i.Count == 0 && i.Value <= 31
	}
	return false
}

// judged fails unless Decode takes the bytes if they are a record, and only then,
// and tells whether they are.
func judged(t *testing.T, b []byte) bool {
	t.Helper()
	r, good := known(b)
	if good {
		isThat(t, "another record with its sum", b, r)
	} else {
		isNone(t, "what no record has, with its sum", b)
	}
	return good
}

// Each byte ahead of the sum in turn is each value, and the sum holds: that is a
// record only if what stands there may be.
func TestP7_2EachByteWithSum(t *testing.T) {
	for _, r := range []api.Record{of(mark(1)), some(), full(), of(trim(0, 64), next(31), drop(63, 1), mark(256)), of(move(9, 256), write(0))} {
		taken := 0
		for at := range 60 {
			for x := range 256 {
				b := laid(r)[:60]
				b[at] = byte(x)
				if judged(t, sealed(b, r.Blocks...)) {
					taken++
				}
			}
		}
		if taken < 60+11*256 {
			t.Errorf("%v: only %d of the bytes were records", r, taken)
		}
	}
}

// Two bytes of the counts and the items are others, and the sum holds.
func TestP7_2TwoBytesWithSum(t *testing.T) {
	d := dice(3)
	taken := 0
	for range 60000 {
		r := [...]api.Record{some(), full(), of(write(1), put(2))}[d.roll(3)]
		b := laid(r)[:60]
		b[14+d.roll(46)] = byte(d.roll(9))
		b[14+d.roll(46)] = byte(d.roll(9))
		if judged(t, sealed(b, r.Blocks...)) {
			taken++
		}
	}
	if taken < 3000 {
		t.Errorf("only %d of the bytes were records", taken)
	}
}

// The counts are all that they can be, with as many blocks as they say, and others.
func TestP7_2CountsWithSum(t *testing.T) {
	for items := range 10 {
		for n := range 10 {
			for there := range 10 {
				for _, r := range []api.Record{some(), full(), of(every()[:6]...), of(every()[:3]...), of(mark(1))} {
					judged(t, sealed(lead(r, items, n), blocks(there)...))
				}
			}
		}
	}
	for x := range 256 {
		isNone(t, "no items, but blocks", sealed(lead(of(), 0, x), blocks(x)...))
		if x > 6 {
			r := of(slices.Repeat([]api.Item{mark(1)}, min(x, 6))...)
			isNone(t, "too many items", sealed(lead(r, x, 0)))
			isNone(t, "too many blocks", sealed(lead(full(), 6, x), blocks(x)...))
		}
	}
}

// Each item that may not be, at each place, where its block would be there or not.
func TestP7_2ItemsWithSum(t *testing.T) {
	for _, bad := range bads() {
		for n := 1; n <= 6; n++ {
			for at := range n {
				l := every()[:n]
				l[at] = bad
				for k := range 1 + n {
					r := of(l...)
					isNone(t, "an item that may not be", sealed(lead(r, n, k), blocks(k)...))
				}
			}
		}
	}
}

func TestP7_2WrongWithSum(t *testing.T) {
	r := some()
	l := lead(r, 3, 2)
	signed := func(sign string) []byte {
		return sealed(append([]byte(sign), l[2:]...), r.Blocks...)
	}
	isThat(t, "a record", signed("KR"), r)
	for _, sign := range []string{"\x00\x00", "KS", "KH", "KC", "KP", "RK", "kr", "Kr", "kR", "K\x00", "\x00R", "RR", "KK"} {
		isNone(t, "another sign", signed(sign))
		sizes(t, "another sign", signed(sign)[:64], 0)
	}
	for at := len(l); at < 60; at++ {
		b := append(bytes.Clone(l), make([]byte, 60-len(l))...)
		b[at] = 1
		isNone(t, "something behind the items", sealed(b, r.Blocks...))
	}
	six := lead(full(), 6, 5)
	isThat(t, "six items", sealed(six, full().Blocks...), full())
	isNone(t, "something behind six items", sealed(append(bytes.Clone(six), 0, 1), full().Blocks...))
	isNone(t, "something behind six items", sealed(append(bytes.Clone(six), 1, 0), full().Blocks...))
	isNone(t, "a summary of zeros", sealed(nil))
	isNone(t, "a summary of zeros, and a block", sealed(nil, block(1)))
	isNone(t, "a seventh item", sealed(append(bytes.Clone(six), 3, 0), full().Blocks...))
}

func TestP7_2NumbersWithSum(t *testing.T) {
	for _, n := range []int{0, 1 << 31, 1<<31 + 1, 1<<32 - 1} {
		r := some()
		r.Mount = n
		isNone(t, "a Mount that may not be", laid(r))
		r = some()
		r.LSN = n
		isNone(t, "an LSN that may not be", laid(r))
		r = some()
		r.Prev = n
		isThat(t, "any Prev", laid(r), r)
	}
}

func TestP7_2HandedIn(t *testing.T) {
	r := full()
	spare := block(99)
	r.Items = append(make([]api.Item, 0, 9), r.Items...)
	r.Blocks = append(make([][]byte, 0, 9), r.Blocks...)
	for k, b := range r.Blocks {
		r.Blocks[k] = append(append(make([]byte, 0, 128), b...), spare...)[:64]
	}
	r.Blocks = append(r.Blocks, spare)[:5]
	all := append(laid(full()), 9, 9, 9, 9)
	before := bytes.Clone(all)
	record.May(r)
	record.Len(r)
	encoded(t, r, laid(full()))
	isThat(t, "bytes with spare room", all[:384], full())
	isNone(t, "bytes cut", all[:383])
	sizes(t, "a summary with more behind it", all[:64], 6)
	if !like(r, full()) || !slices.Equal(r.Items[6:9], make([]api.Item, 3)) || !bytes.Equal(r.Blocks[:6][5], block(99)) || r.Blocks[:9][6] != nil {
		t.Errorf("the record handed in was changed: %v", r)
	}
	for k, b := range r.Blocks {
		if !bytes.Equal(b[64:128], block(99)) {
			t.Errorf("the spare room of block %d was changed", k)
		}
	}
	if !bytes.Equal(all, before) {
		t.Errorf("the bytes handed in were changed: % x", all)
	}
}

func TestP7_2AnswersAreNew(t *testing.T) {
	r := full()
	one, _ := bytesOf(t, r)
	other, _ := bytesOf(t, r)
	clear(one[:cap(one)])
	clear(r.Items)
	for _, b := range r.Blocks {
		clear(b)
	}
	if !bytes.Equal(other, laid(full())) {
		t.Errorf("an answer of Encode was changed from without: % x", other)
	}
	first, _, _ := record.Decode(other)
	second, _, _ := record.Decode(other)
	clear(other)
	clear(first.Items[:cap(first.Items)])
	if !slices.EqualFunc(first.Blocks, full().Blocks, bytes.Equal) {
		t.Error("an answer of Decode was changed from without")
	}
	for k, b := range first.Blocks {
		clear(b[:cap(b)])
		if !slices.EqualFunc(first.Blocks[k+1:], full().Blocks[k+1:], bytes.Equal) {
			t.Errorf("block %d shares memory with one behind it", k)
		}
	}
	clear(first.Blocks[:cap(first.Blocks)])
	if !like(second, full()) {
		t.Errorf("an answer of Decode was changed from without: %v", second)
	}
}

// turned is the bytes with some bits turned: the lowest bit of the pattern stands
// for bit at, in a row of bits that has the lowest one of each byte first.
func turned(b []byte, at int, pattern uint32) []byte {
	x := bytes.Clone(b)
	for ; pattern > 0; pattern >>= 1 {
		x[at/8] ^= byte(pattern&1) << (at % 8)
		at++
	}
	return x
}

// patterns are bits in a row, that many of them, the first and the last one turned:
// all of them, these two alone, and some between.
func patterns(n int) []uint32 {
	all := uint32(1<<n - 1)
	ends := uint32(1 | 1<<(n-1))
	return []uint32{all, ends, ends | 0x55555555&all, ends | 0x0F0F0F0F&all, ends | 0x82F63B78&all}
}

func TestP7_3OneBit(t *testing.T) {
	for _, r := range []api.Record{of(mark(1)), of(write(9)), some(), full(), of(slices.Repeat([]api.Item{put(1)}, 6)...)} {
		b, _ := bytesOf(t, r)
		for at := range 8 * len(b) {
			isNone(t, "one bit turned", turned(b, at, 1))
		}
	}
}

func TestP7_3BitsInARow(t *testing.T) {
	for _, r := range []api.Record{of(mark(1), next(2)), some()} {
		b, _ := bytesOf(t, r)
		for n := 2; n <= 32; n++ {
			for at := 0; at+n <= 8*len(b); at++ {
				if at < 512 && at+n > 480 {
					continue
				}
				for _, p := range patterns(n) {
					isNone(t, "bits in a row turned", turned(b, at, p))
				}
			}
		}
	}
}

func TestP7_3BitsInARowOfMany(t *testing.T) {
	d := dice(5)
	b, _ := bytesOf(t, of(slices.Repeat([]api.Item{put(1)}, 6)...))
	for range 30000 {
		n := 1 + d.roll(32)
		p := uint32(1|1<<(n-1)) | uint32(d.roll(1<<32))&uint32(1<<n-1)
		isNone(t, "bits of the blocks turned", turned(b, 512+d.roll(8*len(b)-512-n+1), p))
		isNone(t, "bits of the summary turned", turned(b, d.roll(480-n+1), p))
	}
}

// A turned record whose numbers may be is none either: only the sum tells.
func TestP7_3NumbersTurned(t *testing.T) {
	b, _ := bytesOf(t, some())
	for p := uint32(1); p < 1<<12; p++ {
		isNone(t, "a Mount turned", turned(b, 16, p))
		isNone(t, "an LSN turned", turned(b, 48, p))
		isNone(t, "a Prev turned", turned(b, 80, p))
		isNone(t, "the counts turned", turned(b, 112, p))
		isNone(t, "a Block's number turned", turned(b, 136, p))
		isNone(t, "a Value turned", turned(b, 208, p))
		isNone(t, "a block's first bytes turned", turned(b, 512, p))
		isNone(t, "bytes of two blocks turned", turned(b, 1018, p))
	}
}

// The counts are turned, and the sectors of another record are asked for, as a
// summary that was turned would have it: they are none.
func TestP7_3CountsTurned(t *testing.T) {
	b := append(laid(full()), laid(some())...)
	for p := uint32(1); p < 1<<16; p++ {
		x := turned(b, 112, p)
		if n := 64 * record.Size(x[:64]); n > 0 && n <= len(x) {
			isNone(t, "as many sectors as the turned counts say", x[:n])
		}
	}
}
