package paged_test

import (
	"iter"
	"math"
	"slices"
	"strconv"
	"testing"

	"keelson/paged"
)

// wrongSizes is what neither a table's nor a page's size is; some of it is one, if
// only its lowest two or four bytes are looked at.
var wrongSizes = []int{0, -1, -2, -65536, -65537, 65537, 65538, 2 * 65536, 3*65536 + 5, 1<<31 - 1, 1 << 31, 1<<32 + 5, -1<<32 + 5, 1<<48 + 1, math.MaxInt, math.MinInt, math.MinInt + 5}

// shapes are sizes of a table and of its pages: with a last page that is full, with
// one that is shorter, of one page, and of pages of one.
var shapes = [][2]int{{1, 1}, {1, 2}, {1, 65536}, {2, 1}, {2, 2}, {2, 3}, {5, 1}, {5, 2}, {5, 3}, {5, 4}, {5, 5}, {5, 6}, {6, 2}, {6, 3}, {6, 4}, {7, 3}, {15, 15}, {20, 15}, {30, 15}, {31, 15}, {64, 15}, {64, 64}, {64, 65536}}

// outside are numbers that are no place of a table of n, or no page of as many.
func outside(n int) []int {
	return []int{-1, n, -2, -n, n + 1, 2 * n, -n - 1, 65536, 65537, -65536, 1<<31 - 1, 1 << 31, 1 << 32, 1<<32 + n - 1, -1 << 32, 1 << 62, math.MaxInt, math.MinInt}
}

// made is a table of n values.
func made[T comparable](t *testing.T, n, per int, v T) *paged.Paged[T] {
	t.Helper()
	p := paged.New(n, per, v)
	if p == nil {
		t.Fatalf("New(%d, %d, %v): got nil", n, per, v)
	}
	return p
}

// counted is a table of 100, 101, and so on, no page of which is dirty.
func counted(t *testing.T, n, per int) (*paged.Paged[int], []int) {
	t.Helper()
	p, l := made(t, n, per, 0), numbers(n)
	for k, part := range cut(l, per) {
		loads(t, p, k, part...)
	}
	return p, l
}

// numbers is n numbers from 100 on.
func numbers(n int) []int {
	l := make([]int, n)
	for i := range l {
		l[i] = 100 + i
	}
	return l
}

// cut is the pages of these values.
func cut[T any](l []T, per int) [][]T {
	var pages [][]T
	for len(l) > per {
		pages = append(pages, l[:per])
		l = l[per:]
	}
	return append(pages, l)
}

// is fails unless a call answered that.
func is[T comparable](t *testing.T, what string, got, want T) {
	t.Helper()
	if got != want {
		t.Errorf("%s: got %v, want %v", what, got, want)
	}
}

// are fails unless a call answered those.
func are[T comparable](t *testing.T, what string, got, want []T) {
	t.Helper()
	if !slices.Equal(got, want) {
		t.Errorf("%s: got %v, want %v", what, got, want)
	}
}

// sets fails unless a value is set.
func sets[T comparable](t *testing.T, p *paged.Paged[T], i int, v T) {
	t.Helper()
	if !p.Set(i, v) {
		t.Errorf("Set(%d, %v): got false", i, v)
	}
}

// loads fails unless a page is loaded.
func loads[T comparable](t *testing.T, p *paged.Paged[T], k int, l ...T) {
	t.Helper()
	if !p.Load(k, l...) {
		t.Errorf("Load(%d, %v): got false", k, l)
	}
}

// gets fails unless that value is at that place.
func gets[T comparable](t *testing.T, p *paged.Paged[T], i int, want T) {
	t.Helper()
	if v, ok := p.Get(i); v != want || !ok {
		t.Errorf("Get(%d): got %v, %v, want %v, true", i, v, ok, want)
	}
}

// places is the places that a walk tells, one behind the other.
func places[T any](walk iter.Seq2[int, T]) []int {
	var l []int
	for i := range walk {
		l = append(l, i)
	}
	return l
}

// values is the values that a walk tells.
func values[T any](walk iter.Seq2[int, T]) []T {
	var l []T
	for _, v := range walk {
		l = append(l, v)
	}
	return l
}

// upTo is 0, 1 and so on, n numbers.
func upTo(n int) []int {
	l := make([]int, n)
	for i := range l {
		l[i] = i
	}
	return l
}

// stands fails unless the whole of a table, whichever way it is asked for, is
// these values, in pages of per, and those pages are dirty.
func stands[T comparable](t *testing.T, what string, p *paged.Paged[T], per int, want []T, dirty ...int) {
	t.Helper()
	is(t, what+": Len", p.Len(), len(want))
	for i, v := range want {
		gets(t, p, i, v)
	}
	pages := cut(want, per)
	is(t, what+": Pages", p.Pages(), len(pages))
	for k, l := range pages {
		are(t, what+": Page("+strconv.Itoa(k)+")", p.Page(k), l)
	}
	are(t, what+": Dirty", slices.Collect(p.Dirty()), dirty)
	are(t, what+": places of All", places(p.All()), upTo(len(want)))
	are(t, what+": values of All", values(p.All()), want)
	lacks(t, what, p)
}

// lacks fails if there is anything behind or ahead of what a table has.
func lacks[T comparable](t *testing.T, what string, p *paged.Paged[T]) {
	t.Helper()
	var none T
	for _, i := range outside(p.Len()) {
		if i >= 0 && i < p.Len() {
			continue
		}
		if v, ok := p.Get(i); v != none || ok {
			t.Errorf("%s: Get(%d) of %d: got %v, %v", what, i, p.Len(), v, ok)
		}
	}
	for _, k := range outside(p.Pages()) {
		if k >= 0 && k < p.Pages() {
			continue
		}
		if l := p.Page(k); len(l) > 0 {
			t.Errorf("%s: Page(%d) of %d: got %v", what, k, p.Pages(), l)
		}
	}
}

func TestP11_1Example(t *testing.T) {
	p := made(t, 5, 2, 0)
	is(t, "Pages", p.Pages(), 3)
	stands(t, "a new one", p, 2, []int{0, 0, 0, 0, 0})
	is(t, "Set(4, 1)", p.Set(4, 1), true)
	stands(t, "behind Set(4, 1)", p, 2, []int{0, 0, 0, 0, 1}, 2)
	is(t, "Set(4, 1) again", p.Set(4, 1), true)
	stands(t, "behind it again", p, 2, []int{0, 0, 0, 0, 1}, 2)
}

func TestP11_1Texts(t *testing.T) {
	p := made(t, 5, 2, "a")
	stands(t, "a new one", p, 2, []string{"a", "a", "a", "a", "a"})
	sets(t, p, 1, "")
	sets(t, p, 4, "long")
	sets(t, p, 2, "a")
	stands(t, "behind three of Set", p, 2, []string{"a", "", "a", "a", "long"}, 0, 2)
	loads(t, p, 0, "x", "y")
	stands(t, "behind Load", p, 2, []string{"x", "y", "a", "a", "long"}, 2)
	sets(t, p, 4, string([]byte("long")))
	sets(t, p, 1, string([]byte{'y'}))
	stands(t, "behind the same texts from elsewhere", p, 2, []string{"x", "y", "a", "a", "long"}, 2)
}

func TestP11_1NewSizes(t *testing.T) {
	for n := 1; n <= 40; n++ {
		for per := 1; per <= 45; per++ {
			p := made(t, n, per, -7)
			stands(t, "a new one", p, per, slices.Repeat([]int{-7}, n))
		}
	}
	for _, n := range []int{1, 2, 255, 256, 257, 32767, 32768, 32769, 65534, 65535, 65536} {
		for _, per := range []int{1, 2, 255, 256, 257, 32767, 32768, 32769, 65534, 65535, 65536} {
			p := made(t, n, per, true)
			stands(t, "a new one", p, per, slices.Repeat([]bool{true}, n))
		}
	}
}

func TestP11_1NewWrongSizes(t *testing.T) {
	for _, wrong := range wrongSizes {
		for _, right := range []int{1, 2, 5, 65535, 65536} {
			is(t, "New of "+strconv.Itoa(wrong)+" values", paged.New(wrong, right, 1), nil)
			is(t, "New of pages of "+strconv.Itoa(wrong), paged.New(right, wrong, 1), nil)
			is(t, "New of texts", paged.New(wrong, right, "1"), nil)
		}
		for _, other := range wrongSizes {
			is(t, "New of nothing right", paged.New(wrong, other, 1), nil)
		}
	}
}

func TestP11_1SetEachPlace(t *testing.T) {
	for _, s := range shapes {
		p, l := counted(t, s[0], s[1])
		for i := range l {
			sets(t, p, i, l[i])
			stands(t, "behind Set of what was there", p, s[1], l)
		}
		for i := range l {
			l[i] = 7 * i
			sets(t, p, i, l[i])
			stands(t, "behind Set", p, s[1], l, upTo(i/s[1]+1)...)
		}
		p.Clean()
		for i := range l {
			l[i]--
			sets(t, p, i, l[i])
			stands(t, "behind Set of one", p, s[1], l, i/s[1])
			p.Clean()
		}
	}
}

func TestP11_1LargeTables(t *testing.T) {
	for _, per := range []int{1, 2, 3, 255, 256, 257, 4095, 32768, 65535, 65536} {
		p := made(t, 65536, per, 0)
		l := make([]int, 65536)
		for _, i := range []int{65535, 65534, 32768, 32767, 256, 0} {
			l[i] = i + 1
			sets(t, p, i, i+1)
		}
		var dirty []int
		for _, i := range []int{0, 256, 32767, 32768, 65534, 65535} {
			if !slices.Contains(dirty, i/per) {
				dirty = append(dirty, i/per)
			}
		}
		stands(t, "pages of "+strconv.Itoa(per), p, per, l, dirty...)
		last := (65536 - 1) / per
		loads(t, p, last, make([]int, 65536-last*per)...)
		clear(l[last*per:])
		stands(t, "its last page loaded", p, per, l, dirty[:len(dirty)-1]...)
	}
}

func TestP11_1SetNoPlace(t *testing.T) {
	for _, s := range shapes {
		p, l := counted(t, s[0], s[1])
		sets(t, p, 0, 5)
		l[0] = 5
		for _, i := range outside(s[0]) {
			if i >= 0 && i < s[0] {
				continue
			}
			is(t, "Set of no place", p.Set(i, 77), false)
			is(t, "Set of no place", p.Set(i, 0), false)
		}
		stands(t, "behind Set of no place", p, s[1], l, 0)
		p.Clean()
		is(t, "Set of the last place and one", p.Set(s[0], 77), false)
		is(t, "Set of -1", p.Set(-1, 77), false)
		stands(t, "behind Set of no place", p, s[1], l)
	}
}

func TestP11_1LoadEachPage(t *testing.T) {
	for _, s := range shapes {
		p, l := counted(t, s[0], s[1])
		for k, page := range cut(l, s[1]) {
			for i := range page {
				page[i] += 1000
				sets(t, p, k*s[1]+i, -1)
			}
			loads(t, p, k, page...)
			stands(t, "behind Load", p, s[1], l)
			loads(t, p, k, page...)
			stands(t, "behind Load again", p, s[1], l)
		}
	}
}

// A page is loaded with as many values as it has, with no others, also if these
// are what is there, or if the page next to it has so many.
func TestP11_1LoadCounts(t *testing.T) {
	for _, s := range shapes {
		p, l := counted(t, s[0], s[1])
		p.Set(s[0]-1, 3)
		l[s[0]-1] = 3
		last := p.Pages() - 1
		for k, page := range cut(slices.Clone(l), s[1]) {
			for n := range len(l) + 20 {
				if n == len(page) {
					continue
				}
				is(t, "Load of another count", p.Load(k, append(slices.Clone(page), numbers(len(l)+20)...)[:n]...), false)
			}
			is(t, "Load of none", p.Load(k), false)
			is(t, "Load of too many", p.Load(k, make([]int, 65536+1)...), false)
			is(t, "Load of too many", p.Load(k, make([]int, 65536+len(page))...), false)
		}
		stands(t, "behind Load of other counts", p, s[1], l, last)
	}
}

func TestP11_1LoadNoPage(t *testing.T) {
	for _, s := range shapes {
		p, l := counted(t, s[0], s[1])
		p.Set(0, 3)
		l[0] = 3
		pages := cut(l, s[1])
		for _, k := range outside(len(pages)) {
			if k >= 0 && k < len(pages) {
				continue
			}
			for _, n := range []int{0, 1, 2, s[0], len(pages[0]), len(pages[len(pages)-1]), 65536} {
				is(t, "Load of no page", p.Load(k, make([]int, n)...), false)
			}
			is(t, "Load of no page with nil", p.Load(k, []int(nil)...), false)
			is(t, "Load of no page with an empty list", p.Load(k, []int{}...), false)
		}
		stands(t, "behind Load of no page", p, s[1], l, 0)
	}
}

func TestP11_1Clean(t *testing.T) {
	for _, s := range shapes {
		p, l := counted(t, s[0], s[1])
		p.Clean()
		stands(t, "nothing dirty, cleaned", p, s[1], l)
		for i := range l {
			l[i] = -i
			sets(t, p, i, -i)
		}
		stands(t, "all dirty", p, s[1], l, upTo(p.Pages())...)
		p.Clean()
		stands(t, "all cleaned", p, s[1], l)
		p.Clean()
		stands(t, "cleaned twice", p, s[1], l)
	}
}

func TestP11_1PageIsNotShared(t *testing.T) {
	for _, s := range shapes {
		p, l := counted(t, s[0], s[1])
		for k, page := range cut(l, s[1]) {
			one, other := p.Page(k), p.Page(k)
			clear(one[:cap(one)])
			_ = append(one[:0], make([]int, cap(one))...)
			_ = append(one, 1, 2, 3)
			are(t, "another answer of Page", other, page)
			stands(t, "what Page told was turned", p, s[1], l)
			sets(t, p, k*s[1], -5)
			are(t, "an elder answer of Page", other, page)
			page[0] = -5
			loads(t, p, k, page...)
		}
	}
}

func TestP11_1LoadIsNotShared(t *testing.T) {
	for _, s := range shapes {
		p, l := counted(t, s[0], s[1])
		for k, page := range cut(l, s[1]) {
			roomy := append(make([]int, 0, len(page)+9), page...)
			loads(t, p, k, roomy...)
			are(t, "what was handed in", roomy, page)
			are(t, "its spare room", roomy[len(page):len(page)+9], make([]int, 9))
			clear(roomy)
			stands(t, "what Load was given was turned", p, s[1], l)
			roomy = append(roomy[:0], page...)
			loads(t, p, k, roomy...)
			sets(t, p, k*s[1], -5)
			p.Clean()
			are(t, "what was handed in, behind a Set", roomy, page)
			page[0] = -5
		}
		stands(t, "behind all", p, s[1], l)
	}
}

// What one table's page is may be another's, and the same table's.
func TestP11_1LoadOfPage(t *testing.T) {
	p, l := counted(t, 9, 3)
	q := made(t, 9, 3, 0)
	loads(t, q, 2, p.Page(0)...)
	loads(t, p, 1, p.Page(0)...)
	sets(t, p, 0, 7)
	stands(t, "loaded from itself", p, 3, []int{7, 101, 102, 100, 101, 102, 106, 107, 108}, 0)
	stands(t, "loaded from another one", q, 3, []int{0, 0, 0, 0, 0, 0, 100, 101, 102})
	are(t, "numbers", l, numbers(9))
}

func TestP11_1TablesHaveNothingInCommon(t *testing.T) {
	p, q := made(t, 5, 2, 0), made(t, 5, 2, 0)
	sets(t, p, 3, 9)
	loads(t, q, 0, 4, 4)
	sets(t, q, 4, 8)
	stands(t, "one", p, 2, []int{0, 0, 0, 9, 0}, 1)
	stands(t, "the other one", q, 2, []int{4, 4, 0, 0, 8}, 2)
	p.Clean()
	stands(t, "one cleaned", p, 2, []int{0, 0, 0, 9, 0})
	stands(t, "the other one not", q, 2, []int{4, 4, 0, 0, 8}, 2)
}

// kindOf goes through what holds of all kinds of values alike: a and b differ.
func kindOf[T comparable](t *testing.T, what string, a, b T) {
	t.Helper()
	p := made(t, 5, 2, a)
	stands(t, what+", new", p, 2, []T{a, a, a, a, a})
	sets(t, p, 2, a)
	stands(t, what+", the same", p, 2, []T{a, a, a, a, a})
	sets(t, p, 3, b)
	sets(t, p, 4, b)
	stands(t, what+", others", p, 2, []T{a, a, a, b, b}, 1, 2)
	loads(t, p, 1, b, a)
	stands(t, what+", loaded", p, 2, []T{a, a, b, a, b}, 2)
	p.Clean()
	sets(t, p, 2, b)
	sets(t, p, 4, b)
	stands(t, what+", the same behind Clean", p, 2, []T{a, a, b, a, b})
	sets(t, p, 4, a)
	stands(t, what+", back", p, 2, []T{a, a, b, a, a}, 2)
}

func TestP11_1Kinds(t *testing.T) {
	x, y := 1, 1
	kindOf(t, "bools", true, false)
	kindOf(t, "bytes", byte(0), 255)
	kindOf(t, "numbers", math.MinInt, math.MaxInt)
	kindOf(t, "floats", math.Inf(-1), 0.5)
	kindOf(t, "complex numbers", complex(1, 2), complex(1, 3))
	kindOf(t, "arrays", [3]int{1, 2, 3}, [3]int{1, 2, 4})
	kindOf(t, "structs", struct {
		a int
		b string
	}{1, "x"}, struct {
		a int
		b string
	}{1, "y"})
	kindOf(t, "pointers to like ones", &x, &y)
	kindOf(t, "a pointer and nil", nil, &y)
	kindOf[any](t, "interface values", 1, "1")
	kindOf[any](t, "interface values of two kinds", 1, byte(1))
	kindOf[any](t, "an interface value and nil", nil, 0)
}

func TestP11_1OneValueOnly(t *testing.T) {
	p := made(t, 5, 2, struct{}{})
	sets(t, p, 4, struct{}{})
	loads(t, p, 0, struct{}{}, struct{}{})
	is(t, "Load of one too few", p.Load(0, struct{}{}), false)
	stands(t, "what has no other value", p, 2, make([]struct{}, 5))
}

// Like ones may differ all the same: the table has what was set, and its page is
// not dirty.
func TestP11_1LikeOnes(t *testing.T) {
	p := made(t, 2, 1, 0.0)
	sets(t, p, 1, math.Copysign(0, -1))
	v, ok := p.Get(1)
	is(t, "Get", ok, true)
	is(t, "its sign", math.Signbit(v), true)
	are(t, "Dirty", slices.Collect(p.Dirty()), nil)
}

// What is like nothing, not even itself, is another one each time.
func TestP11_1LikeNothing(t *testing.T) {
	p := made(t, 2, 1, math.NaN())
	are(t, "Dirty of a new one", slices.Collect(p.Dirty()), nil)
	sets(t, p, 1, math.NaN())
	are(t, "Dirty", slices.Collect(p.Dirty()), []int{1})
	is(t, "Load", p.Load(1, math.NaN()), true)
	are(t, "Dirty behind Load", slices.Collect(p.Dirty()), nil)
	v, ok := p.Get(1)
	is(t, "Get", ok && math.IsNaN(v), true)
}

// Interface values may hold what has no ==.
func TestP11_1NoComparison(t *testing.T) {
	type pair struct{ a, b any }
	p := made[any](t, 4, 2, []int{1})
	are(t, "Dirty of a new one", slices.Collect(p.Dirty()), nil)
	for _, v := range []any{[]int{2}, map[int]int{}, func() {}, pair{1, []int{3}}, [1]any{[]int{4}}, []int{5}} {
		p.Clean()
		is(t, "Set", p.Set(3, v), true)
		is(t, "Set again", p.Set(3, v), true)
		are(t, "Dirty", slices.Collect(p.Dirty()), []int{1})
	}
	v, ok := p.Get(3)
	is(t, "Get", ok, true)
	are(t, "the value", v.([]int), []int{5})
	is(t, "Load", p.Load(1, []int{6}, 7), true)
	are(t, "Dirty behind Load", slices.Collect(p.Dirty()), nil)
	are(t, "Page", p.Page(1)[0].([]int), []int{6})
	is(t, "Page", p.Page(1)[1], any(7))
	is(t, "Set of no place", p.Set(4, []int{1}), false)
	sets(t, p, 3, any(7))
	are(t, "Dirty behind the same", slices.Collect(p.Dirty()), nil)
}

// every is a table of 23 in pages of 3, of which those pages are dirty.
func every(t *testing.T, dirty ...int) (*paged.Paged[int], []int) {
	t.Helper()
	p, l := counted(t, 23, 3)
	for _, k := range dirty {
		l[3*k] = -k - 1
		sets(t, p, 3*k, -k-1)
	}
	return p, l
}

// stopped is what a walk tells, if it is stopped behind the n-th.
func stopped[T any](walk iter.Seq[T], n int) []T {
	var l []T
	for v := range walk {
		l = append(l, v)
		if len(l) == n {
			break
		}
	}
	return l
}

// joined is a walk through places and values as one through pairs of them.
func joined(walk iter.Seq2[int, int]) iter.Seq[[2]int] {
	return func(yield func([2]int) bool) {
		walk(func(i, v int) bool { return yield([2]int{i, v}) })
	}
}

// pairs is each of these values with its place.
func pairs(l []int) [][2]int {
	out := make([][2]int, len(l))
	for i, v := range l {
		out[i] = [2]int{i, v}
	}
	return out
}

// someDirty are lists of dirty pages of a table of eight.
func someDirty() [][]int {
	return [][]int{nil, {0}, {7}, {3}, {0, 7}, {1, 2}, {0, 2, 4, 6}, {1, 3, 5, 7}, {0, 1, 2, 3, 4, 5, 6, 7}}
}

func TestP11_2DirtyRises(t *testing.T) {
	for _, dirty := range someDirty() {
		backwards := slices.Clone(dirty)
		slices.Reverse(backwards)
		p, l := every(t, backwards...)
		stands(t, "dirtied backwards", p, 3, l, dirty...)
		p, l = every(t, append(backwards, dirty...)...)
		stands(t, "dirtied twice", p, 3, l, dirty...)
	}
}

func TestP11_2DirtyStoppedAndAgain(t *testing.T) {
	for _, dirty := range someDirty() {
		p, _ := every(t, dirty...)
		walk := p.Dirty()
		for n := 1; n <= len(dirty)+1; n++ {
			are(t, "Dirty, stopped", stopped(walk, n), dirty[:min(n, len(dirty))])
			are(t, "Dirty, again", slices.Collect(walk), dirty)
		}
	}
}

func TestP11_2AllStoppedAndAgain(t *testing.T) {
	for _, s := range shapes {
		p, l := counted(t, s[0], s[1])
		walk := joined(p.All())
		for n := 1; n <= len(l)+1; n++ {
			are(t, "All, stopped", stopped(walk, n), pairs(l)[:min(n, len(l))])
			are(t, "All, again", slices.Collect(walk), pairs(l))
		}
	}
}

// A walk that is stopped asks for nothing more.
func TestP11_2StoppedForGood(t *testing.T) {
	p, _ := every(t, 0, 1, 2, 3, 4, 5, 6, 7)
	for at := range 8 {
		n := 0
		p.Dirty()(func(k int) bool {
			n++
			return k != at
		})
		is(t, "calls of Dirty's yield", n, at+1)
	}
	for at := range 23 {
		n := 0
		p.All()(func(i, _ int) bool {
			n++
			return i != at
		})
		is(t, "calls of All's yield", n, at+1)
	}
}

func TestP11_2DirtyTurnedBetween(t *testing.T) {
	p, l := every(t)
	walk := p.Dirty()
	are(t, "nothing dirty", slices.Collect(walk), nil)
	sets(t, p, 22, -1)
	are(t, "dirtied behind the call", slices.Collect(walk), []int{7})
	sets(t, p, 0, -1)
	sets(t, p, 10, -1)
	are(t, "stopped", stopped(walk, 1), []int{0})
	loads(t, p, 0, l[:3]...)
	sets(t, p, 5, -1)
	are(t, "turned between", slices.Collect(walk), []int{1, 3, 7})
	p.Clean()
	are(t, "cleaned between", slices.Collect(walk), nil)
	sets(t, p, 10, -2)
	are(t, "dirtied again", slices.Collect(walk), []int{3})
	is(t, "Set of no place", p.Set(23, 1), false)
	is(t, "Load of too few", p.Load(3, 1, 2), false)
	are(t, "nothing done between", slices.Collect(walk), []int{3})
}

func TestP11_2AllTurnedBetween(t *testing.T) {
	p, l := every(t)
	walk := joined(p.All())
	are(t, "as it was", slices.Collect(walk), pairs(l))
	l[22] = -1
	sets(t, p, 22, -1)
	are(t, "set behind the call", slices.Collect(walk), pairs(l))
	are(t, "stopped", stopped(walk, 4), pairs(l)[:4])
	l[3], l[4], l[5] = 1, 2, 3
	loads(t, p, 1, 1, 2, 3)
	are(t, "loaded between", slices.Collect(walk), pairs(l))
	p.Clean()
	are(t, "cleaned between", slices.Collect(walk), pairs(l))
	l[0] = 9
	sets(t, p, 0, 9)
	are(t, "set between", slices.Collect(walk), pairs(l))
}

// Two walks at once, of one call and of two, do not meet.
func TestP11_2WithinAnother(t *testing.T) {
	dirty := []int{0, 3, 4, 7}
	p, l := every(t, dirty...)
	pages, all := p.Dirty(), joined(p.All())
	var out []int
	for k := range pages {
		out = append(out, k)
		are(t, "Dirty within itself", slices.Collect(pages), dirty)
		are(t, "another Dirty within it", slices.Collect(p.Dirty()), dirty)
		are(t, "Dirty within itself, stopped", stopped(pages, 2), dirty[:2])
		are(t, "All within Dirty", slices.Collect(all), pairs(l))
	}
	are(t, "Dirty outside", out, dirty)
	var through [][2]int
	for x := range all {
		through = append(through, x)
		are(t, "All within itself", slices.Collect(all), pairs(l))
		are(t, "All within itself, stopped", stopped(all, 5), pairs(l)[:5])
		are(t, "Dirty within All", slices.Collect(pages), dirty)
	}
	are(t, "All outside", through, pairs(l))
}

// Of a page that is turned in the midst nothing is promised, but of the others.
func TestP11_2DirtyTurnedInTheMidst(t *testing.T) {
	for at := range 8 {
		for turned := range 8 {
			for _, load := range []bool{false, true} {
				p, l := every(t, 0, 2, 3, 5, 6)
				var out []int
				for k := range p.Dirty() {
					if k >= at && load {
						p.Load(turned, make([]int, len(p.Page(turned)))...)
					} else if k >= at {
						p.Set(3*turned+1, 7)
					}
					out = append(out, k)
				}
				want := slices.DeleteFunc([]int{0, 2, 3, 5, 6}, func(k int) bool { return k == turned })
				are(t, "the others", slices.DeleteFunc(out, func(k int) bool { return k == turned }), want)
				is(t, "Len", p.Len(), len(l))
			}
		}
	}
}

func TestP11_2AllTurnedInTheMidst(t *testing.T) {
	for at := range 23 {
		for turned := range 23 {
			p, l := every(t, 0, 2)
			out := make([]int, 0, 23)
			for i, v := range p.All() {
				if i == at {
					p.Set(turned, 7)
					p.Clean()
				}
				is(t, "the place", i, len(out))
				out = append(out, v)
			}
			is(t, "how many", len(out), 23)
			out[turned] = l[turned]
			are(t, "the others", out, l)
		}
	}
}

// nothing fails unless a table answers as one that is not there.
func nothing[T comparable](t *testing.T, p *paged.Paged[T], v T) {
	t.Helper()
	var none T
	for _, n := range append(outside(1), 0, 1, 5) {
		got, ok := p.Get(n)
		is(t, "Get", got, none)
		is(t, "Get", ok, false)
		is(t, "Set", p.Set(n, v), false)
		is(t, "Set of the zero value", p.Set(n, none), false)
		are(t, "Page", p.Page(n), nil)
		is(t, "Load", p.Load(n, v), false)
		is(t, "Load of none", p.Load(n), false)
		is(t, "Load of many", p.Load(n, make([]T, 70000)...), false)
	}
	p.Clean()
	is(t, "Len", p.Len(), 0)
	is(t, "Pages", p.Pages(), 0)
	for range 2 {
		are(t, "Dirty", slices.Collect(p.Dirty()), nil)
		are(t, "All", places(p.All()), nil)
		are(t, "All", values(p.All()), nil)
	}
}

func TestP11_2Nil(t *testing.T) {
	nothing(t, nil, 7)
	nothing(t, nil, "x")
	nothing(t, nil, true)
	nothing[any](t, nil, []int{1})
	nothing(t, nil, [2]float64{1, 2})
	nothing(t, paged.New(0, 1, 7), 7)
}

// One that New did not make has nothing, too, and does not panic.
func TestP11_2NotMade(t *testing.T) {
	nothing(t, new(paged.Paged[int]), 7)
	nothing(t, &paged.Paged[string]{}, "x")
}

func TestP11_3SetAndBack(t *testing.T) {
	p, l := counted(t, 7, 3)
	sets(t, p, 4, -1)
	sets(t, p, 4, 104)
	stands(t, "turned, and back", p, 3, l, 1)
	sets(t, p, 4, 104)
	sets(t, p, 3, 103)
	stands(t, "the same behind it", p, 3, l, 1)
	p.Clean()
	stands(t, "cleaned", p, 3, l)
	sets(t, p, 4, 104)
	stands(t, "the same behind Clean", p, 3, l)
}

func TestP11_3DirtiedLoadedDirtied(t *testing.T) {
	p, l := counted(t, 7, 3)
	for round := range 3 {
		for k, page := range cut(l, 3) {
			page[0] = 1000*round - k
			sets(t, p, 3*k, page[0])
			stands(t, "dirtied", p, 3, l, k)
			loads(t, p, k, page...)
			stands(t, "loaded with what it has", p, 3, l)
			page[0]++
			sets(t, p, 3*k, page[0])
			stands(t, "dirtied again", p, 3, l, k)
			clear(page)
			loads(t, p, k, page...)
			stands(t, "loaded with others", p, 3, l)
			sets(t, p, 3*k, 0)
			stands(t, "the same behind Load", p, 3, l)
		}
		for i := range l {
			l[i] = i - 50
			sets(t, p, i, l[i])
		}
		stands(t, "all dirtied", p, 3, l, 0, 1, 2)
		p.Clean()
		stands(t, "all cleaned", p, 3, l)
	}
}

// Loading one page leaves the others as dirty as they are.
func TestP11_3LoadsOnePage(t *testing.T) {
	for _, dirty := range someDirty() {
		for k := range 8 {
			p, l := every(t, dirty...)
			page := p.Page(k)
			for i := range page {
				page[i] = i
				l[3*k+i] = i
			}
			loads(t, p, k, page...)
			left := slices.DeleteFunc(slices.Clone(dirty), func(d int) bool { return d == k })
			stands(t, "one page loaded", p, 3, l, left...)
		}
	}
}

// What is refused leaves a page as dirty as it is.
func TestP11_3Refused(t *testing.T) {
	for _, dirty := range someDirty() {
		p, l := every(t, dirty...)
		for k := range 9 {
			p.Load(k)
			p.Load(k, 1)
			p.Load(k, 1, 2, 3, 4)
		}
		p.Load(8, 1, 2, 3)
		p.Load(-1, 1, 2, 3)
		p.Set(23, 1)
		p.Set(-1, 1)
		p.Load(7, 1, 2, 3)
		stands(t, "behind what was refused", p, 3, l, dirty...)
	}
}

// anyOf is the pages, by number, of which one is true at least.
func anyOf(pages [][]bool) []int {
	var l []int
	for k, page := range pages {
		if slices.Contains(page, true) {
			l = append(l, k)
		}
	}
	return l
}

// Beside the table goes what was turned, place by place, since its page was loaded
// or all were cleaned.
func TestP11_3AgainstHistory(t *testing.T) {
	for seed, s := range shapes {
		n, per := s[0], s[1]
		p, l, turned := made(t, n, per, 0), make([]int, n), make([]bool, n)
		pages, marks := cut(l, per), cut(turned, per)
		x := uint32(seed)
		next := func(below int) int {
			x = x*1664525 + 1013904223
			return int(x>>8) % below
		}
		for range 300 {
			switch kind := next(20); {
			case kind < 14:
				i, v := next(n), next(3)
				sets(t, p, i, v)
				turned[i] = turned[i] || l[i] != v
				l[i] = v
			case kind < 18:
				k := next(len(pages))
				for i := range pages[k] {
					pages[k][i] = next(3)
				}
				loads(t, p, k, pages[k]...)
				clear(marks[k])
			case kind < 19:
				p.Clean()
				clear(turned)
			default:
				p.Set(n, 1)
				p.Load(next(len(pages)))
			}
			stands(t, "as by hand", p, per, l, anyOf(marks)...)
		}
	}
}
