package item_test

import (
	"bytes"
	"math"
	"slices"
	"testing"

	"keelson/api"
	"keelson/item"
)

// near is the numbers at, beside and between the bounds of all fields.
var near = []int{
	-64, -2, -1, 0, 1, 2, 3, 5, 16, 30, 31, 32, 33, 59, 60, 61, 62, 63, 64, 65, 66, 127, 128,
	255, 256, 257, 4094, 4095, 4096, 4097, 65535, 65536, 1 << 24, 1<<31 - 2, 1<<31 - 1, 1 << 31,
}

// far is what no field is; some of it is one again, if only its lowest one or four
// bytes are looked at, or if a sum wraps round.
var far = []int{
	-128, -192, -255, -256, -1 << 31, -1<<32 + 1, -1<<62 + 1, 1<<31 + 1, 1<<32 - 1, 1 << 32, 1<<32 + 1, 1<<32 + 60,
	1<<40 + 3, math.MaxInt, math.MaxInt - 1, math.MaxInt - 59, math.MinInt, math.MinInt + 1, math.MinInt + 64,
}

// span is the numbers from low to high.
type span struct{ low, high int }

func (s span) has(n int) bool {
	return n >= s.low && n <= s.high
}

// bounds is what the fields of the items of a kind are.
type bounds struct {
	kind                int
	block, count, value span
}

// kinds are the bounds of all kinds, in numbers.
func kinds() []bounds {
	none, blocks := span{0, 0}, span{0, 63}
	return []bounds{
		{1, blocks, none, none},
		{2, blocks, span{1, 64}, none},
		{3, none, none, span{1, 2147483647}},
		{4, blocks, none, span{1, 4095}},
		{5, blocks, none, none},
		{6, blocks, span{1, 64}, none},
		{7, none, none, span{0, 31}},
	}
}

// wanted tells by the bounds whether an item may be.
func wanted(i api.Item) bool {
	for _, k := range kinds() {
		if k.kind == i.Kind {
			return k.block.has(i.Block) && k.count.has(i.Count) && k.value.has(i.Value) &&
				(k.count.low == 0 || i.Block+i.Count <= 64)
		}
	}
	return false
}

// of is an item of these numbers.
func of(kind, block, count, value int) api.Item {
	return api.Item{Kind: kind, Block: block, Count: count, Value: value}
}

// goods are items of each kind that may be, at, beside and between their bounds.
func goods() []api.Item {
	var l []api.Item
	for _, k := range kinds() {
		for _, block := range near {
			for _, count := range near {
				for _, value := range near {
					if i := of(k.kind, block, count, value); wanted(i) {
						l = append(l, i)
					}
				}
			}
		}
	}
	return l
}

// bads are items that may not be; each has bytes of its own that could be laid.
func bads() []api.Item {
	return []api.Item{
		{}, of(0, 9, 0, 0), of(0, 0, 0, 1), of(8, 0, 0, 0), of(9, 3, 0, 0), of(255, 0, 0, 1),
		of(1, 64, 0, 0), of(1, 255, 0, 0), of(1, 0, 1, 0), of(1, 0, 0, 1), of(1, 0, 0, 1<<31),
		of(2, 0, 0, 0), of(2, 0, 65, 0), of(2, 60, 5, 0), of(2, 64, 1, 0), of(2, 1, 255, 0), of(2, 0, 1, 1),
		of(3, 0, 0, 0), of(3, 0, 0, 1<<31), of(3, 0, 0, 1<<32-1), of(3, 1, 0, 1), of(3, 0, 1, 1),
		of(4, 0, 0, 0), of(4, 0, 0, 4096), of(4, 64, 0, 1), of(4, 0, 1, 1), of(4, 0, 0, 1<<31+1),
		of(5, 64, 0, 0), of(5, 0, 1, 0), of(5, 0, 0, 1),
		of(6, 0, 0, 0), of(6, 0, 65, 0), of(6, 1, 64, 0), of(6, 63, 2, 0), of(6, 0, 64, 1),
		of(7, 0, 0, 32), of(7, 0, 0, 1<<32-1), of(7, 1, 0, 0), of(7, 0, 1, 0),
	}
}

// six is an ordinary item of each of six kinds.
func six() []api.Item {
	return []api.Item{of(1, 9, 0, 0), of(2, 3, 61, 0), of(3, 0, 0, 67305985), of(4, 63, 0, 4095), of(5, 0, 0, 0), of(7, 0, 0, 31)}
}

// laid is the bytes of items by hand, also of those that may not be.
func laid(l ...api.Item) []byte {
	var b []byte
	for _, i := range l {
		v := i.Value
		b = append(b, byte(i.Kind), byte(i.Block), byte(i.Count), byte(v), byte(v>>8), byte(v>>16), byte(v>>24))
	}
	return b
}

// may fails unless an item may be, and has bytes.
func may(t *testing.T, l ...api.Item) {
	t.Helper()
	for _, i := range l {
		b, e := item.Encode(i)
		if !item.May(i) || len(b) != 7 || e != api.OK {
			t.Errorf("%v: May %t, Encode %d bytes and error %d, want true and 7", i, item.May(i), len(b), e)
		}
	}
}

// mayNot fails unless an item may not be, is not loaded, and has no bytes.
func mayNot(t *testing.T, l ...api.Item) {
	t.Helper()
	for _, i := range l {
		b, e := item.Encode(i)
		if item.May(i) || item.Loaded(i) || len(b) > 0 || e != api.ErrArg {
			t.Errorf("%v: May %t, Loaded %t, Encode %d bytes and error %d, want false, false, none and %d",
				i, item.May(i), item.Loaded(i), len(b), e, api.ErrArg)
		}
	}
}

// encoded fails unless the items have those bytes.
func encoded(t *testing.T, want []byte, l ...api.Item) {
	t.Helper()
	b, e := item.Encode(l...)
	if !bytes.Equal(b, want) || e != api.OK {
		t.Errorf("Encode(%v): got % x and error %d, want % x", l, b, e, want)
	}
}

// refused fails unless the items have no bytes.
func refused(t *testing.T, what string, l ...api.Item) {
	t.Helper()
	b, e := item.Encode(l...)
	if len(b) > 0 || e != api.ErrArg {
		t.Errorf("Encode of %s (%v): got % x and error %d, want none and %d", what, l, b, e, api.ErrArg)
	}
}

// isThat fails unless Decode answers these items.
func isThat(t *testing.T, b []byte, want ...api.Item) {
	t.Helper()
	l, e := item.Decode(b)
	if !slices.Equal(l, want) || e != api.OK {
		t.Errorf("Decode of % x: got %v and error %d, want %v", b, l, e, want)
	}
}

// isNone fails unless Decode refuses the bytes.
func isNone(t *testing.T, what string, b []byte) {
	t.Helper()
	l, e := item.Decode(b)
	if len(l) > 0 || e != api.ErrBad {
		t.Errorf("Decode of %s (%d bytes, % x): got %v and error %d, want none and %d",
			what, len(b), b[:min(len(b), 50)], l, e, api.ErrBad)
	}
}

// again fails unless the items are decoded from their bytes as they were.
func again(t *testing.T, l ...api.Item) {
	t.Helper()
	b, e := item.Encode(l...)
	if len(b) != 7*len(l) || e != api.OK {
		t.Fatalf("Encode(%v): got %d bytes and error %d, want %d", l, len(b), e, 7*len(l))
	}
	isThat(t, b, l...)
}

func TestP6_1Example(t *testing.T) {
	mayNot(t, of(api.Trim, 60, 5, 0))
	may(t, of(api.Trim, 60, 4, 0))
}

func TestP6_1Write(t *testing.T) {
	for _, kind := range []int{api.Write, api.Put} {
		may(t, of(kind, 0, 0, 0), of(kind, 1, 0, 0), of(kind, 62, 0, 0), of(kind, 63, 0, 0))
		mayNot(t, of(kind, -1, 0, 0), of(kind, 64, 0, 0), of(kind, 255, 0, 0), of(kind, 256, 0, 0))
		mayNot(t, of(kind, 0, 1, 0), of(kind, 0, -1, 0), of(kind, 0, 0, 1), of(kind, 0, 0, -1))
		mayNot(t, of(kind, 9, 1, 0), of(kind, 9, 64, 0), of(kind, 9, 0, 4095), of(kind, 9, 1, 1))
	}
}

func TestP6_1Trim(t *testing.T) {
	for _, kind := range []int{api.Trim, api.Drop} {
		may(t, of(kind, 0, 1, 0), of(kind, 0, 63, 0), of(kind, 0, 64, 0), of(kind, 63, 1, 0))
		mayNot(t, of(kind, 0, 0, 0), of(kind, 0, -1, 0), of(kind, 63, 0, 0), of(kind, 5, -5, 0))
		mayNot(t, of(kind, -1, 1, 0), of(kind, -1, 2, 0), of(kind, 64, 0, 0), of(kind, 64, 1, 0), of(kind, 65, -1, 0))
		mayNot(t, of(kind, 0, 1, 1), of(kind, 0, 1, -1), of(kind, 0, 64, 4095))
	}
}

// Block and Count together are 64 at most, also where each of them may be.
func TestP6_1TrimTogether(t *testing.T) {
	for _, kind := range []int{api.Trim, api.Drop} {
		for block := range 64 {
			for count := 1; count <= 66; count++ {
				if i := of(kind, block, count, 0); block+count <= 64 {
					may(t, i)
				} else {
					mayNot(t, i)
				}
			}
		}
		for _, count := range far {
			mayNot(t, of(kind, 5, count, 0), of(kind, count, 1, 0), of(kind, count, -count, 0), of(kind, -count, count, 0))
		}
	}
}

func TestP6_1Mark(t *testing.T) {
	may(t, of(api.Mark, 0, 0, 1), of(api.Mark, 0, 0, 2), of(api.Mark, 0, 0, 1<<31-2), of(api.Mark, 0, 0, 1<<31-1))
	mayNot(t, of(api.Mark, 0, 0, 0), of(api.Mark, 0, 0, -1), of(api.Mark, 0, 0, 1<<31), of(api.Mark, 0, 0, 1<<32+1))
	mayNot(t, of(api.Mark, 1, 0, 1), of(api.Mark, -1, 0, 1), of(api.Mark, 0, 1, 1), of(api.Mark, 0, -1, 1))
}

func TestP6_1Move(t *testing.T) {
	may(t, of(api.Move, 0, 0, 1), of(api.Move, 63, 0, 1), of(api.Move, 0, 0, 4095), of(api.Move, 63, 0, 4095), of(api.Move, 9, 0, 4094))
	mayNot(t, of(api.Move, 0, 0, 0), of(api.Move, 63, 0, 0), of(api.Move, 0, 0, -1), of(api.Move, 0, 0, 4096))
	mayNot(t, of(api.Move, -1, 0, 1), of(api.Move, 64, 0, 1), of(api.Move, 0, 1, 1), of(api.Move, 0, -1, 1))
}

func TestP6_1Next(t *testing.T) {
	for seg := range 32 {
		may(t, of(api.Next, 0, 0, seg))
	}
	mayNot(t, of(api.Next, 0, 0, -1), of(api.Next, 0, 0, 32), of(api.Next, 0, 0, 33), of(api.Next, 0, 0, 1<<31-1))
	mayNot(t, of(api.Next, 1, 0, 0), of(api.Next, -1, 0, 0), of(api.Next, 0, 1, 0), of(api.Next, 0, -1, 0))
}

func TestP6_1OtherKinds(t *testing.T) {
	for kind := -20; kind <= 300; kind++ {
		if kind >= api.Write && kind <= api.Next {
			continue
		}
		mayNot(t, of(kind, 0, 0, 0), of(kind, 9, 0, 0), of(kind, 9, 1, 0), of(kind, 0, 0, 1), of(kind, 9, 0, 1))
	}
	for _, kind := range far {
		mayNot(t, of(kind, 0, 0, 0), of(kind, 9, 0, 0), of(kind, 9, 1, 0), of(kind, 0, 0, 1), of(kind, 9, 0, 1))
	}
}

// Each kind with all numbers that are near a bound, or far from all.
func TestP6_1AllNumbers(t *testing.T) {
	nums := slices.Concat(near, far)
	for kind := -2; kind <= 12; kind++ {
		for _, block := range nums {
			for _, count := range nums {
				for _, value := range nums {
					i := of(kind, block, count, value)
					want := wanted(i)
					loaded := want && (kind == 1 || kind == 4 || kind == 5)
					if item.May(i) != want || item.Loaded(i) != loaded {
						t.Fatalf("%v: May %t, Loaded %t, want %t, %t", i, item.May(i), item.Loaded(i), want, loaded)
					}
				}
			}
		}
	}
}

func TestP6_1Loaded(t *testing.T) {
	for _, i := range []api.Item{of(api.Write, 0, 0, 0), of(api.Write, 63, 0, 0), of(api.Move, 0, 0, 1), of(api.Move, 63, 0, 4095), of(api.Put, 0, 0, 0), of(api.Put, 63, 0, 0)} {
		if !item.Loaded(i) {
			t.Errorf("Loaded(%v): got false", i)
		}
	}
	for _, i := range []api.Item{of(api.Trim, 0, 1, 0), of(api.Drop, 0, 64, 0), of(api.Mark, 0, 0, 1), of(api.Next, 0, 0, 0), of(api.Next, 0, 0, 31)} {
		if item.Loaded(i) {
			t.Errorf("Loaded(%v): got true, but it has no block", i)
		}
	}
	for _, i := range append(bads(), of(api.Write, -1, 0, 0), of(api.Put, 0, -1, 0), of(api.Move, 0, 0, -1)) {
		if item.Loaded(i) {
			t.Errorf("Loaded(%v): got true, but it may not be", i)
		}
	}
}

func TestP6_2Bytes(t *testing.T) {
	encoded(t, nil)
	encoded(t, []byte{1, 9, 0, 0, 0, 0, 0, 3, 0, 0, 1, 2, 3, 4}, of(api.Write, 9, 0, 0), of(api.Mark, 0, 0, 67305985))
	encoded(t, []byte{2, 3, 61, 0, 0, 0, 0}, of(api.Trim, 3, 61, 0))
	encoded(t, []byte{3, 0, 0, 255, 255, 255, 127}, of(api.Mark, 0, 0, 1<<31-1))
	encoded(t, []byte{4, 63, 0, 255, 15, 0, 0}, of(api.Move, 63, 0, 4095))
	encoded(t, []byte{5, 63, 0, 0, 0, 0, 0}, of(api.Put, 63, 0, 0))
	encoded(t, []byte{6, 0, 64, 0, 0, 0, 0}, of(api.Drop, 0, 64, 0))
	encoded(t, []byte{7, 0, 0, 31, 0, 0, 0}, of(api.Next, 0, 0, 31))
}

func TestP6_2BytesAtEdges(t *testing.T) {
	for _, i := range goods() {
		encoded(t, laid(i), i)
		encoded(t, laid(i, i, i), i, i, i)
	}
}

func TestP6_2HowMany(t *testing.T) {
	for n := range 7 {
		l := six()[:n]
		encoded(t, laid(l...), l...)
		isThat(t, laid(l...), l...)
	}
	for _, more := range []int{1, 2, 3, 6, 250, 10000} {
		l := append(six(), slices.Repeat([]api.Item{of(api.Mark, 0, 0, 1)}, more)...)
		refused(t, "too many items", l...)
		isNone(t, "too many items", laid(l...))
	}
}

// Among any number of items, at each place, one that may not be: none has bytes.
func TestP6_2OneAmongOthers(t *testing.T) {
	for _, bad := range bads() {
		for n := 1; n <= 6; n++ {
			for at := range n {
				l := six()[:n]
				l[at] = bad
				refused(t, "one that may not be", l...)
				isNone(t, "one that may not be", laid(l...))
			}
		}
	}
	for _, n := range far {
		for at := range 6 {
			for _, bad := range []api.Item{of(n, 0, 0, 1), of(1, n, 0, 0), of(2, 0, n, 0), of(3, 0, 0, n), of(4, 0, 0, n), of(7, 0, 0, n)} {
				l := six()
				l[at] = bad
				refused(t, "one with a number that no item has", l...)
			}
		}
	}
}

func TestP6_2Decode(t *testing.T) {
	isThat(t, nil)
	isThat(t, []byte{})
	isThat(t, []byte{1, 9, 0, 0, 0, 0, 0, 3, 0, 0, 1, 2, 3, 4}, of(api.Write, 9, 0, 0), of(api.Mark, 0, 0, 67305985))
	isThat(t, []byte{2, 0, 64, 0, 0, 0, 0}, of(api.Trim, 0, 64, 0))
	isThat(t, []byte{3, 0, 0, 255, 255, 255, 127}, of(api.Mark, 0, 0, 1<<31-1))
	isThat(t, []byte{4, 63, 0, 255, 15, 0, 0}, of(api.Move, 63, 0, 4095))
	isThat(t, []byte{5, 63, 0, 0, 0, 0, 0}, of(api.Put, 63, 0, 0))
	isThat(t, []byte{6, 63, 1, 0, 0, 0, 0}, of(api.Drop, 63, 1, 0))
	isThat(t, []byte{7, 0, 0, 31, 0, 0, 0}, of(api.Next, 0, 0, 31))
}

// Each byte of an item of each kind in turn is each value: that is an item only if
// one with these numbers may be.
func TestP6_2EachByte(t *testing.T) {
	for _, i := range append(six(), of(api.Drop, 0, 64, 0), of(api.Mark, 0, 0, 1), of(api.Move, 0, 0, 256)) {
		for at := range 7 {
			for x := range 256 {
				b := laid(i)
				b[at] = byte(x)
				other := of(int(b[0]), int(b[1]), int(b[2]), int(b[3])|int(b[4])<<8|int(b[5])<<16|int(b[6])<<24)
				if wanted(other) {
					isThat(t, b, other)
				} else {
					isNone(t, "what no item has", b)
				}
			}
		}
	}
}

func TestP6_2OtherLengths(t *testing.T) {
	b := laid(slices.Repeat([]api.Item{of(api.Write, 0, 0, 0)}, 9400)...)
	for n := range 400 {
		if n%7 == 0 && n <= 42 {
			isThat(t, b[:n], slices.Repeat([]api.Item{of(api.Write, 0, 0, 0)}, n/7)...)
		} else {
			isNone(t, "bytes of no items", b[:n])
		}
		if n > 0 {
			isNone(t, "zeros", make([]byte, n))
		}
	}
	// A row has 65536 bytes at most; 65534 and 65541 are multiples of seven.
	for _, n := range []int{65534, 65535, 65536, 65537, 65541, 65800} {
		isNone(t, "as many bytes as a row has, or more", b[:n])
		isNone(t, "as many zeros as a row has, or more", make([]byte, n))
	}
}

func TestP6_2HandedIn(t *testing.T) {
	l := append(make([]api.Item, 0, 9), six()...)
	b := append(make([]byte, 0, 99), laid(l...)...)
	item.Encode(l...)
	item.Encode(l[:3]...)
	item.Decode(b)
	item.Decode(b[:41])
	spare, rest := l[6:9], b[42:99]
	if !slices.Equal(l, six()) || !slices.Equal(spare, make([]api.Item, 3)) {
		t.Errorf("the items handed in were changed: %v, %v", l, spare)
	}
	if !bytes.Equal(b, laid(six()...)) || !bytes.Equal(rest, make([]byte, 57)) {
		t.Errorf("the bytes handed in were changed: % x, % x", b, rest)
	}
}

func TestP6_2AnswersAreNew(t *testing.T) {
	l := six()
	one, _ := item.Encode(l...)
	other, _ := item.Encode(l...)
	clear(one[:cap(one)])
	clear(l)
	if !bytes.Equal(other, laid(six()...)) {
		t.Errorf("an answer of Encode was changed from without: % x", other)
	}
	first, _ := item.Decode(other)
	second, _ := item.Decode(other)
	clear(first[:cap(first)])
	clear(other)
	if !slices.Equal(second, six()) {
		t.Errorf("an answer of Decode was changed from without: %v", second)
	}
}

func TestP6_3OneAndTwo(t *testing.T) {
	again(t)
	all := goods()
	for k, i := range all {
		again(t, i)
		again(t, i, all[len(all)-1-k])
	}
}

func TestP6_3ManyAtOnce(t *testing.T) {
	all := goods()
	x := uint32(1)
	for round := range 20000 {
		l := make([]api.Item, round%7)
		for k := range l {
			x = x*1664525 + 1013904223
			l[k] = all[int(x>>8)%len(all)]
		}
		again(t, l...)
	}
}

// What Decode takes is, encoded, the very same bytes.
func TestP6_3BytesAgain(t *testing.T) {
	x := uint32(7)
	next := func(n uint32) int {
		x = x*1664525 + 1013904223
		return int((x >> 8) % n)
	}
	taken := 0
	for range 200000 {
		// Of the bytes behind the kind most are zeros, for else hardly any are items.
		b := []byte{byte(next(9)), 0, 0, 0, 0, 0, 0}
		b[1+next(6)] = byte(next(256))
		b[1+next(6)] = byte(next(80))
		if l, e := item.Decode(b); e == api.OK {
			taken++
			encoded(t, b, l...)
		}
	}
	if taken < 10000 {
		t.Errorf("only %d of the bytes were items", taken)
	}
}
