package row_test

import (
	"bytes"
	"math"
	"testing"

	"keelson/row"
)

// widths is the width of a number, in bytes, and the greatest one of that width.
var widths = []struct{ width, greatest int }{
	{1, 255},
	{2, 65535},
	{4, 4294967295},
}

// badWidths is what is no width.
var badWidths = []int{0, 3, 5, 6, 7, 8, 16, 32, -1, -2, -4, math.MaxInt, math.MinInt}

// stands fails unless the row has these bytes, and so many of them are left.
func stands(t *testing.T, what string, r *row.Row, all []byte, left int) {
	t.Helper()
	if got := r.Bytes(); !bytes.Equal(got, all) {
		t.Errorf("%s: Bytes: got %v, want %v", what, got, all)
	}
	if got := r.Left(); got != left {
		t.Errorf("%s: Left: got %d, want %d", what, got, left)
	}
}

// told fails unless a call answered as it should.
func told(t *testing.T, what string, got, want bool) {
	t.Helper()
	if got != want {
		t.Errorf("%s: got %v, want %v", what, got, want)
	}
}

// gets fails unless Get answers that number, or false and 0.
func gets(t *testing.T, what string, r *row.Row, width, want int, wantOK bool) {
	t.Helper()
	if n, ok := r.Get(width); n != want || ok != wantOK {
		t.Errorf("%s: Get(%d): got %d %v, want %d %v", what, width, n, ok, want, wantOK)
	}
}

// takes fails unless Take answers these bytes, or false and none.
func takes(t *testing.T, what string, r *row.Row, n int, want []byte, wantOK bool) {
	t.Helper()
	if b, ok := r.Take(n); !bytes.Equal(b, want) || ok != wantOK {
		t.Errorf("%s: Take(%d): got %v %v, want %v %v", what, n, b, ok, want, wantOK)
	}
}

func TestP1_1NewSizes(t *testing.T) {
	for _, size := range []int{0, 1, 2, 3, 64, 65535, 65536} {
		r := row.New(size)
		if r == nil {
			t.Fatalf("New(%d): nil", size)
		}
		stands(t, "New", r, make([]byte, size), size)
	}
	for _, size := range []int{-1, -65536, 65537, 131072, math.MaxInt, math.MinInt} {
		if row.New(size) != nil {
			t.Errorf("New(%d): not nil", size)
		}
	}
}

func TestP1_1FromSizes(t *testing.T) {
	for _, size := range []int{0, 1, 5, 65535, 65536} {
		b := counted(size)
		r := row.From(b)
		if r == nil {
			t.Fatalf("From %d bytes: nil", size)
		}
		stands(t, "From", r, b, size)
	}
	for _, size := range []int{65537, 131072} {
		if row.From(make([]byte, size)) != nil {
			t.Errorf("From %d bytes: not nil", size)
		}
	}
	if r := row.From(nil); r == nil {
		t.Error("From(nil): nil")
	} else {
		stands(t, "From(nil)", r, nil, 0)
	}
}

// counted is so many bytes that differ from those beside them.
func counted(size int) []byte {
	b := make([]byte, size)
	for i := range b {
		b[i] = byte(i*7 + i>>8 + 1)
	}
	return b
}

func TestP1_1FromCopies(t *testing.T) {
	whole := []byte{1, 2, 3, 4, 5}
	r := row.From(whole[:3])
	whole[0] = 99
	stands(t, "behind a change of what was handed in", r, []byte{1, 2, 3}, 3)
	told(t, "Lay over it", r.Lay([]byte{7, 8, 9}), true)
	told(t, "Put behind its end", r.Put(1, 6), false)
	if !bytes.Equal(whole, []byte{99, 2, 3, 4, 5}) {
		t.Errorf("what was handed in was changed: %v", whole)
	}
}

func TestP1_1PutLeastByteFirst(t *testing.T) {
	r := row.New(16)
	told(t, "of width 1", r.Put(1, 0x12), true)
	stands(t, "of width 1", r, []byte{15: 0, 0: 0x12}, 15)
	told(t, "of width 2", r.Put(2, 0x3456), true)
	told(t, "of width 4", r.Put(4, 0x789abcde), true)
	told(t, "several", r.Put(2, 1, 2, 0x0304), true)
	stands(t, "several", r, []byte{0x12, 0x56, 0x34, 0xde, 0xbc, 0x9a, 0x78, 1, 0, 2, 0, 4, 3, 0, 0, 0}, 3)
}

func TestP1_1PutExample(t *testing.T) {
	r := row.New(3)
	told(t, "Put(2, 258)", r.Put(2, 258), true)
	stands(t, "Put(2, 258)", r, []byte{2, 1, 0}, 1)
	told(t, "Put(2, 1)", r.Put(2, 1), false)
	stands(t, "Put(2, 1)", r, []byte{2, 1, 0}, 1)
}

func TestP1_1PutLeastAndGreatest(t *testing.T) {
	for _, w := range widths {
		r := row.New(w.width * 2)
		told(t, "the least and the greatest", r.Put(w.width, 0, w.greatest), true)
		want := append(make([]byte, w.width), bytes.Repeat([]byte{255}, w.width)...)
		stands(t, "the least and the greatest", r, want, 0)
	}
}

func TestP1_1PutRefusesNumbers(t *testing.T) {
	for _, w := range widths {
		for _, n := range []int{-1, -w.greatest, -w.greatest - 1, w.greatest + 1, 2*w.greatest + 1, math.MaxInt, math.MinInt} {
			for _, l := range [][]int{{n}, {n, 7}, {7, n}, {7, n, 7}} {
				r := row.New(16)
				r.Put(1, 5)
				told(t, "a number that is none", r.Put(w.width, l...), false)
				stands(t, "a number that is none", r, []byte{15: 0, 0: 5}, 15)
			}
		}
	}
}

func TestP1_1PutRefusesWidths(t *testing.T) {
	for _, width := range badWidths {
		r := row.New(64)
		told(t, "one, and no width", r.Put(width, 0), false)
		told(t, "several, and no width", r.Put(width, 1, 2), false)
		told(t, "none, and no width", r.Put(width), false)
		stands(t, "no width", r, make([]byte, 64), 64)
	}
}

func TestP1_1PutFits(t *testing.T) {
	for _, w := range widths {
		r := row.New(w.width*3 + w.width - 1)
		want := r.Bytes()
		told(t, "one more than fits", r.Put(w.width, 9, 9, 9, 9), false)
		stands(t, "one more than fits", r, want, len(want))
		told(t, "as many as fit", r.Put(w.width, 9, 9, 9), true)
		for i := range 3 {
			want[i*w.width] = 9
		}
		stands(t, "as many as fit", r, want, w.width-1)
		told(t, "one too wide for what is left", r.Put(w.width, 0), false)
		stands(t, "one too wide for what is left", r, want, w.width-1)
	}
}

func TestP1_1PutJustFull(t *testing.T) {
	for _, w := range widths {
		r := row.New(65536)
		told(t, "a row that is just full", r.Put(w.width, make([]int, 65536/w.width)...), true)
		stands(t, "a row that is just full", r, make([]byte, 65536), 0)
		told(t, "one more", r.Put(1, 0), false)
		r = row.New(65536)
		told(t, "one too many at once", r.Put(w.width, make([]int, 65536/w.width+1)...), false)
		stands(t, "one too many at once", r, make([]byte, 65536), 65536)
	}
}

func TestP1_1PutNone(t *testing.T) {
	for _, w := range widths {
		r := row.New(1)
		told(t, "none", r.Put(w.width), true)
		stands(t, "none", r, []byte{0}, 1)
		r.Put(1, 3)
		told(t, "none into a full row", r.Put(w.width), true)
		stands(t, "none into a full row", r, []byte{3}, 0)
		told(t, "none into an empty row", row.New(0).Put(w.width), true)
	}
}

func TestP1_1PutKeepsArgument(t *testing.T) {
	whole := []int{1, 2, 3, 4}
	r := row.New(2)
	told(t, "two of four", r.Put(1, whole[:2]...), true)
	whole[0] = 9
	stands(t, "behind a change of what was handed in", r, []byte{1, 2}, 0)
	if whole[1] != 2 || whole[2] != 3 || whole[3] != 4 {
		t.Errorf("what was handed in was changed: %v", whole)
	}
}

func TestP1_1Lay(t *testing.T) {
	r := row.New(6)
	b := []byte{1, 2, 3}
	told(t, "some", r.Lay(b), true)
	b[0] = 99
	stands(t, "some", r, []byte{1, 2, 3, 0, 0, 0}, 3)
	told(t, "one more than fits", r.Lay([]byte{4, 5, 6, 7}), false)
	stands(t, "one more than fits", r, []byte{1, 2, 3, 0, 0, 0}, 3)
	told(t, "none", r.Lay(nil), true)
	stands(t, "none", r, []byte{1, 2, 3, 0, 0, 0}, 3)
	told(t, "just full", r.Lay([]byte{4, 5, 6}), true)
	stands(t, "just full", r, []byte{1, 2, 3, 4, 5, 6}, 0)
	told(t, "none into a full row", r.Lay([]byte{}), true)
	told(t, "one into a full row", r.Lay([]byte{7}), false)
	stands(t, "one into a full row", r, []byte{1, 2, 3, 4, 5, 6}, 0)
}

func TestP1_1LayEdges(t *testing.T) {
	told(t, "none into an empty row", row.New(0).Lay(nil), true)
	told(t, "one into an empty row", row.New(0).Lay([]byte{0}), false)
	b := counted(65536)
	r := row.New(65536)
	told(t, "65537 bytes", r.Lay(make([]byte, 65537)), false)
	told(t, "65536 bytes", r.Lay(b), true)
	stands(t, "65536 bytes", r, b, 0)
}

func TestP1_1PlaceIsShared(t *testing.T) {
	r := row.From([]byte{1, 2, 3, 4, 5})
	gets(t, "ahead", r, 1, 1, true)
	told(t, "Put behind a Get", r.Put(1, 9), true)
	takes(t, "behind a Put", r, 1, []byte{3}, true)
	told(t, "Lay behind a Take", r.Lay([]byte{8}), true)
	gets(t, "behind a Lay", r, 1, 5, true)
	stands(t, "at the end", r, []byte{1, 9, 3, 8, 5}, 0)
}

func TestP1_2Get(t *testing.T) {
	all := []byte{0x12, 0x56, 0x34, 0xde, 0xbc, 0x9a, 0xf8, 1}
	r := row.From(all)
	gets(t, "width 1", r, 1, 0x12, true)
	stands(t, "behind width 1", r, all, 7)
	gets(t, "width 2", r, 2, 0x3456, true)
	stands(t, "behind width 2", r, all, 5)
	gets(t, "width 4", r, 4, 0xf89abcde, true)
	stands(t, "behind width 4", r, all, 1)
	gets(t, "too few", r, 4, 0, false)
	gets(t, "too few", r, 2, 0, false)
	stands(t, "behind too few", r, all, 1)
	gets(t, "the last one", r, 1, 1, true)
	gets(t, "behind the end", r, 1, 0, false)
	stands(t, "behind the end", r, all, 0)
}

func TestP1_2GetLeastAndGreatest(t *testing.T) {
	for _, w := range widths {
		r := row.From(append(make([]byte, w.width), bytes.Repeat([]byte{255}, w.width)...))
		gets(t, "the least", r, w.width, 0, true)
		gets(t, "the greatest", r, w.width, w.greatest, true)
		short := row.From(bytes.Repeat([]byte{255}, w.width-1))
		gets(t, "a byte short", short, w.width, 0, false)
		stands(t, "a byte short", short, bytes.Repeat([]byte{255}, w.width-1), w.width-1)
		gets(t, "an empty row", row.New(0), w.width, 0, false)
	}
}

func TestP1_2GetRefusesWidths(t *testing.T) {
	for _, width := range badWidths {
		b := bytes.Repeat([]byte{255}, 64)
		r := row.From(b)
		gets(t, "no width", r, width, 0, false)
		stands(t, "no width", r, b, 64)
	}
}

func TestP1_2Take(t *testing.T) {
	all := []byte{1, 2, 3, 4, 5, 6}
	r := row.From(all)
	takes(t, "some", r, 2, []byte{1, 2}, true)
	stands(t, "some", r, all, 4)
	takes(t, "none", r, 0, nil, true)
	for _, n := range []int{5, 65536, math.MaxInt, -1, -2, math.MinInt} {
		takes(t, "not so many", r, n, nil, false)
		stands(t, "not so many", r, all, 4)
	}
	takes(t, "all that are left", r, 4, []byte{3, 4, 5, 6}, true)
	stands(t, "all that are left", r, all, 0)
	takes(t, "none at the end", r, 0, nil, true)
	takes(t, "one at the end", r, 1, nil, false)
	takes(t, "none of an empty row", row.New(0), 0, nil, true)
	takes(t, "one of an empty row", row.New(0), 1, nil, false)
	big := counted(65536)
	takes(t, "all of the greatest row", row.From(big), 65536, big, true)
}

func TestP1_2Left(t *testing.T) {
	r := row.New(8)
	for want := 8; want > 0; want-- {
		if got := r.Left(); got != want {
			t.Errorf("Left: got %d, want %d", got, want)
		}
		r.Put(1, want)
	}
	if got := r.Left(); got != 0 {
		t.Errorf("Left at the end: got %d, want 0", got)
	}
}

func TestP1_2AnswersAreNewMemory(t *testing.T) {
	r := row.From([]byte{1, 2, 3, 4})
	all := r.Bytes()
	all[0] = 99
	stands(t, "behind a change of Bytes", r, []byte{1, 2, 3, 4}, 4)
	part, _ := r.Take(2)
	part[0] = 99
	_ = append(part, 98, 97)
	stands(t, "behind a change of what was taken", r, []byte{1, 2, 3, 4}, 2)
	told(t, "Put", r.Put(1, 7), true)
	if all[2] != 3 {
		t.Errorf("Bytes changed behind the call: %v", all)
	}
}

func TestP1_2NilRow(t *testing.T) {
	var r *row.Row
	for _, w := range widths {
		told(t, "Put of none", r.Put(w.width), false)
		told(t, "Put", r.Put(w.width, 1), false)
		gets(t, "nil", r, w.width, 0, false)
	}
	for _, width := range badWidths {
		told(t, "Put, and no width", r.Put(width), false)
		gets(t, "nil, and no width", r, width, 0, false)
	}
	told(t, "Lay of none", r.Lay(nil), false)
	told(t, "Lay", r.Lay([]byte{1}), false)
	for _, n := range []int{0, 1, -1} {
		takes(t, "nil", r, n, nil, false)
	}
	stands(t, "nil", r, nil, 0)
}

// spread is numbers of a width: its edges, each of its bits alone, and what one
// step to either side of them gives.
func spread(width, greatest int) []int {
	l := []int{0, greatest}
	for bit := range 8 * width {
		for step := -1; step <= 1; step++ {
			if n := 1<<bit + step; n <= greatest {
				l = append(l, n)
			}
		}
	}
	return l
}

func TestP1_3OneWidth(t *testing.T) {
	for _, w := range widths {
		l := spread(w.width, w.greatest)
		r := row.New(w.width * len(l))
		told(t, "Put", r.Put(w.width, l...), true)
		got := row.From(r.Bytes())
		for _, n := range l {
			gets(t, "back", got, w.width, n, true)
		}
		stands(t, "back", got, r.Bytes(), 0)
	}
}

func TestP1_3MixedWidths(t *testing.T) {
	type put struct{ width, n int }
	var l []put
	size := 0
	for i := range 40 {
		for _, w := range widths {
			n := spread(w.width, w.greatest)
			l = append(l, put{w.width, n[i*5%len(n)]})
			size += w.width
		}
	}
	r := row.New(size)
	for _, p := range l {
		told(t, "Put", r.Put(p.width, p.n), true)
	}
	got := row.From(r.Bytes())
	for _, p := range l {
		gets(t, "back", got, p.width, p.n, true)
	}
	stands(t, "back", got, r.Bytes(), 0)
}

func TestP1_3GreatestRow(t *testing.T) {
	l := make([]int, 65536/4)
	for i := range l {
		l[i] = i * 262147
	}
	r := row.New(65536)
	told(t, "Put", r.Put(4, l...), true)
	got := row.From(r.Bytes())
	for _, n := range l {
		gets(t, "back", got, 4, n, true)
	}
}
