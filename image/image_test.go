package image_test

import (
	"fmt"
	"iter"
	"math"
	"slices"
	"testing"

	"keelson/image"
)

const (
	perPage = 15   // blocks of a full page
	top     = 4095 // the greatest number of a sector
	most    = 64   // blocks of a device
)

// sizes are numbers of blocks: with a last page that is full, with one that has one
// block, and between; of one page and of many.
var sizes = []int{1, 2, 3, 14, 15, 16, 17, 20, 29, 30, 31, 44, 45, 46, 59, 60, 61, 63, 64}

// few are those of them that the longer tests go through.
var few = []int{1, 15, 16, 20, 64}

// far are numbers that are no block, page, sector or count; some of them are one, if
// only their lowest bytes are looked at, or if a sum of them wraps round.
var far = []int{
	-2, -3, -15, -16, -64, -65, -255, -256, -4095, -4096, -65536, -1 << 31, -1<<31 + 1, -1 << 32, -1<<32 + 1, -1<<32 + 5,
	65536, 65537, 1<<31 - 1, 1 << 31, 1<<31 + 1, 1<<32 - 1, 1 << 32, 1<<32 + 1, 1<<32 + 5, 1 << 48, 1 << 62,
	math.MaxInt, math.MaxInt - 1, math.MaxInt - 14, math.MinInt, math.MinInt + 1, math.MinInt + 15,
}

// sectors are some where a block may lie, with the first and the last one.
var sectors = []int{1, 2, 127, 128, 255, 256, 257, 2048, top - 1, top}

// noSectors are numbers of none.
var noSectors = append([]int{0, -1, top + 1, top + 2, 2 * (top + 1), 3*(top+1) - 1}, far...)

// places are refs that the base may have and refs that the over may have, in all
// pairs: nothing, nowhere, a sector that is that of the other, and one that is not.
func places() [][2]int {
	var l [][2]int
	for _, base := range []int{0, 1, 700, top} {
		for _, over := range []int{-1, 0, 1, 700, 800, top} {
			l = append(l, [2]int{base, over})
		}
	}
	return l
}

// noBlocks are numbers that are no block of an image of n.
func noBlocks(n int) []int {
	return append([]int{-1, n, n + 1, n + perPage, 2 * n, -n - 1, most, most + 1, 255, 256, 1<<32 + n - 1}, far...)
}

// noPages are numbers that are no page of an image of n.
func noPages(n int) []int {
	return append([]int{-1, pages(n), pages(n) + 1, 2 * pages(n), -pages(n) - 1, 5, 15, 64, 255, 256, 1<<32 + pages(n) - 1}, far...)
}

// pages is how many pages there are of n blocks.
func pages(n int) int {
	return (n + perPage - 1) / perPage
}

// hand is an image that is kept by hand: the base's and the over's refs, and which
// pages of each are dirty.
type hand struct {
	refs  [2][]int
	dirty [2][]bool
}

// which is the number of a table in a hand.
func which(over bool) int {
	if over {
		return 1
	}
	return 0
}

// both are the two tables, the base ahead.
var both = []bool{false, true}

// bench is an image, and what it should be beside it.
type bench struct {
	t *testing.T
	m *image.Image
	hand
}

// made is a bench of n blocks.
func made(t *testing.T, n int) *bench {
	t.Helper()
	m := image.New(n)
	if m == nil {
		t.Fatalf("New(%d): got nil", n)
	}
	x := &bench{t: t, m: m}
	x.refs = [2][]int{make([]int, n), slices.Repeat([]int{-1}, n)}
	x.dirty = [2][]bool{make([]bool, pages(n)), make([]bool, pages(n))}
	return x
}

// full is a bench of n blocks of which the tables have those refs in turn, from the
// k-th on, and no page is dirty.
func full(t *testing.T, n, k int, l [][2]int) *bench {
	t.Helper()
	x := made(t, n)
	for b := range n {
		at := l[(b+k)%len(l)]
		x.refs[0][b], x.refs[1][b] = at[0], at[1]
	}
	for _, over := range both {
		for p := range pages(n) {
			x.load(over, p, x.page(over, p)...)
		}
	}
	return x
}

// page is what a page should have.
func (x *bench) page(over bool, p int) []int {
	l := x.refs[which(over)]
	return slices.Clone(l[p*perPage : min((p+1)*perPage, len(l))])
}

// turn turns a table by hand: the refs that go, as its words say, block by block.
func (x *bench) turn(over bool, f func(refs []int)) []int {
	k := which(over)
	was, gone := slices.Clone(x.refs[k]), []int(nil)
	f(x.refs[k])
	for b, ref := range x.refs[k] {
		if ref == was[b] {
			continue
		}
		x.dirty[k][b/perPage] = true
		if was[b] > 0 {
			gone = append(gone, was[b])
		}
	}
	return gone
}

// is fails unless a call answered that.
func is[T comparable](t *testing.T, what string, got, want T) {
	t.Helper()
	if got != want {
		t.Errorf("%s: got %v, want %v", what, got, want)
	}
}

// are fails unless a call answered those.
func are[T comparable](t *testing.T, what string, got, want []T) {
	t.Helper()
	if !slices.Equal(got, want) {
		t.Errorf("%s: got %v, want %v", what, got, want)
	}
}

// load loads a page of both, and what is too much for it.
func (x *bench) load(over bool, p int, refs ...int) {
	x.t.Helper()
	if !x.m.Load(over, p, refs...) {
		x.t.Errorf("Load(%t, %d, %v): got false", over, p, refs)
	}
	k := which(over)
	copy(x.refs[k][p*perPage:min((p+1)*perPage, len(x.refs[k]))], refs)
	x.dirty[k][p] = false
}

// one does what Write does, or Put.
func (x *bench) one(over bool, b, at int) {
	x.t.Helper()
	name, call := "Put", x.m.Put
	if over {
		name, call = "Write", x.m.Write
	}
	want := 0
	for _, went := range x.turn(over, func(refs []int) { refs[b] = at }) {
		want = went
	}
	if got, ok := call(b, at); got != want || !ok {
		x.t.Errorf("%s(%d, %d): got %d, %t, want %d, true", name, b, at, got, ok, want)
	}
}

// some does what Trim does, or Drop.
func (x *bench) some(over bool, b, n int) {
	x.t.Helper()
	name, call := "Drop", x.m.Drop
	if over {
		name, call = "Trim", x.m.Trim
	}
	want := x.turn(over, func(refs []int) { clear(refs[b : b+n]) })
	if got, ok := call(b, n); !slices.Equal(got, want) || !ok {
		x.t.Errorf("%s(%d, %d): got %v, %t, want %v, true", name, b, n, got, ok, want)
	}
}

// commit does what Commit does.
func (x *bench) commit() {
	x.t.Helper()
	want := x.turn(false, func(refs []int) {
		for b, ref := range x.refs[1] {
			if ref != -1 {
				refs[b] = ref
			}
		}
	})
	x.turn(true, untouched)
	are(x.t, "Commit", x.m.Commit(), want)
}

// forget does what Forget does.
func (x *bench) forget() {
	x.t.Helper()
	are(x.t, "Forget", x.m.Forget(), x.turn(true, untouched))
}

// untouched makes all refs those of untouched blocks.
func untouched(refs []int) {
	for b := range refs {
		refs[b] = -1
	}
}

// move does what Move does.
func (x *bench) move(b, old, at int) {
	x.t.Helper()
	found := false
	for _, over := range both {
		if !found && old > 0 && x.refs[which(over)][b] == old {
			found = true
			x.turn(over, func(refs []int) { refs[b] = at })
		}
	}
	is(x.t, fmt.Sprintf("Move(%d, %d, %d)", b, old, at), x.m.Move(b, old, at), found)
}

// clean does what Clean does.
func (x *bench) clean() {
	x.m.Clean()
	clear(x.dirty[0])
	clear(x.dirty[1])
}

// told is the pairs that Refs should tell.
func (x *bench) told() [][2]int {
	var l [][2]int
	for b := range x.refs[0] {
		for k := range 2 {
			if x.refs[k][b] > 0 {
				l = append(l, [2]int{b, x.refs[k][b]})
			}
		}
	}
	return l
}

// trues is the numbers of those that are true.
func trues(l []bool) []int {
	var out []int
	for k, v := range l {
		if v {
			out = append(out, k)
		}
	}
	return out
}

// paired is a walk through two numbers as one through pairs.
func paired(walk iter.Seq2[int, int]) iter.Seq[[2]int] {
	return func(yield func([2]int) bool) {
		walk(func(a, b int) bool { return yield([2]int{a, b}) })
	}
}

// stopped is what a walk tells, if it is stopped behind its n-th step.
func stopped[T any](walk iter.Seq[T], n int) []T {
	var l []T
	for v := range walk {
		if l = append(l, v); len(l) == n {
			break
		}
	}
	return l
}

// stands fails unless the image, whichever way it is asked, is what it should be.
func (x *bench) stands(what string) {
	x.t.Helper()
	n := len(x.refs[0])
	is(x.t, what+": Blocks", x.m.Blocks(), n)
	pending := 0
	for b, ref := range x.refs[0] {
		over := x.refs[1][b]
		x.gets(what+": Ref", x.m.Ref, b, ref)
		if over != -1 {
			ref = over
			pending++
		}
		x.gets(what+": Look", x.m.Look, b, ref)
	}
	is(x.t, what+": Pending", x.m.Pending(), pending)
	for _, over := range both {
		for p := range pages(n) {
			are(x.t, fmt.Sprintf("%s: Page(%t, %d)", what, over, p), x.m.Page(over, p), x.page(over, p))
		}
		are(x.t, fmt.Sprintf("%s: Dirty(%t)", what, over), slices.Collect(x.m.Dirty(over)), trues(x.dirty[which(over)]))
	}
	are(x.t, what+": Refs", slices.Collect(paired(x.m.Refs())), x.told())
	x.lacks(what, -1, n)
}

// gets fails unless a block has that ref.
func (x *bench) gets(what string, call func(int) (int, bool), b, want int) {
	x.t.Helper()
	if ref, ok := call(b); ref != want || !ok {
		x.t.Errorf("%s(%d): got %d, %t, want %d, true", what, b, ref, ok, want)
	}
}

// lacks fails if one of these is a block, or if there is a page beside those of it.
func (x *bench) lacks(what string, blocks ...int) {
	x.t.Helper()
	for _, b := range blocks {
		ref, ok := x.m.Ref(b)
		look, yes := x.m.Look(b)
		if ref != 0 || ok || look != 0 || yes {
			x.t.Errorf("%s: no block %d: got Ref %d, %t, Look %d, %t", what, b, ref, ok, look, yes)
		}
	}
	for _, over := range both {
		for _, p := range []int{-1, pages(len(x.refs[0]))} {
			if l := x.m.Page(over, p); len(l) > 0 {
				x.t.Errorf("%s: no page %d: got %v", what, p, l)
			}
		}
	}
}

func TestP16_1NewSizes(t *testing.T) {
	for n := 1; n <= most; n++ {
		x := made(t, n)
		x.stands("a new one")
		x.lacks("a new one", noBlocks(n)...)
	}
}

func TestP16_1NewWrongSizes(t *testing.T) {
	for _, n := range append([]int{0, -1, most + 1, most + 2, 2 * most, 255, 256, 257, 4095, 4096}, far...) {
		is(t, fmt.Sprintf("New(%d)", n), image.New(n), nil)
	}
}

func TestP16_1LoadEachPage(t *testing.T) {
	for _, n := range sizes {
		for _, over := range both {
			x := made(t, n)
			for p := range pages(n) {
				l := x.page(over, p)
				for i := range l {
					l[i] = 1000*p + i
				}
				x.load(over, p, l...)
				x.stands("loaded")
				x.load(over, p, l...)
				x.stands("loaded again")
			}
		}
	}
}

// A page that was dirty is not behind a Load, and the others stay as they are.
func TestP16_1LoadDirty(t *testing.T) {
	for _, n := range sizes {
		for _, over := range both {
			for p := range pages(n) {
				x := made(t, n)
				for b := range n {
					x.one(false, b, 10+b)
					x.one(true, b, 110+b)
				}
				x.stands("all dirty")
				same := x.page(over, p)
				x.load(over, p, same...)
				x.stands("loaded with what it has")
				x.one(over, p*perPage, same[0])
				x.stands("the same behind it")
				x.one(over, p*perPage, same[0]+1)
				x.stands("dirty again")
				x.load(over, p, make([]int, len(same))...)
				x.stands("loaded with others")
			}
		}
	}
}

func TestP16_1LoadCounts(t *testing.T) {
	for _, n := range sizes {
		for _, over := range both {
			for p := range pages(n) {
				x := full(t, n, 0, places())
				x.one(over, p*perPage, 5)
				page := x.page(over, p)
				for count := range 3 * perPage {
					l := slices.Repeat([]int{900 + count}, count)
					if count >= len(page) {
						x.load(over, p, l...)
						x.stands(fmt.Sprintf("loaded with %d for %d", count, len(page)))
						continue
					}
					is(t, fmt.Sprintf("Load of %d for %d", count, len(page)), x.m.Load(over, p, l...), false)
					x.stands(fmt.Sprintf("not loaded with %d for %d", count, len(page)))
				}
			}
		}
	}
}

// What counts is how many refs there are, not how many there is room for.
func TestP16_1LoadCountNotRoom(t *testing.T) {
	x := made(t, 20)
	for _, over := range both {
		room := make([]int, 20)
		is(t, "Load of 14", x.m.Load(over, 0, room[:14]...), false)
		is(t, "Load of 4", x.m.Load(over, 1, room[:4]...), false)
		is(t, "Load of none", x.m.Load(over, 1, room[:0]...), false)
	}
	x.stands("with room behind")
}

func TestP16_1LoadRefs(t *testing.T) {
	for _, n := range few {
		for _, over := range both {
			for p := range pages(n) {
				x := full(t, n, 3, places())
				right := append([]int{0}, sectors...)
				if over {
					right = append(right, -1)
				}
				for i := range x.page(over, p) {
					for _, ref := range right {
						l := x.page(over, p)
						l[i] = ref
						x.load(over, p, l...)
						is(t, "the ref", x.m.Page(over, p)[i], ref)
					}
				}
				x.stands("each ref at each place")
			}
		}
	}
}

func TestP16_1LoadWrongRefs(t *testing.T) {
	for _, n := range few {
		for _, over := range both {
			for p := range pages(n) {
				x := full(t, n, 3, places())
				x.one(over, p*perPage, 5)
				for i := range x.page(over, p) {
					for _, ref := range noSectors {
						if ref == 0 || over && ref == -1 {
							continue
						}
						l := slices.Repeat([]int{77}, len(x.page(over, p)))
						l[i] = ref
						is(t, fmt.Sprintf("Load(%t, %d) with %d", over, p, ref), x.m.Load(over, p, l...), false)
						is(t, "and more", x.m.Load(over, p, append(l, 1, 2, 3)...), false)
					}
				}
				x.stands("wrong refs")
			}
		}
	}
}

// What is more than the page has may be anything, and goes nowhere.
func TestP16_1LoadMore(t *testing.T) {
	for _, n := range sizes {
		for _, over := range both {
			for p := range pages(n) {
				x := full(t, n, 5, places())
				l := x.page(over, p)
				for i := range l {
					l[i] = i
				}
				x.load(over, p, append(l, noSectors...)...)
				x.stands("with more that is none")
				x.load(over, p, append(l, make([]int, 65536)...)...)
				x.stands("with far more")
				x.load(over, p, append(l, 7)...)
				x.stands("with one more")
			}
		}
	}
}

func TestP16_1LoadNoPage(t *testing.T) {
	for _, n := range sizes {
		x := full(t, n, 1, places())
		x.one(true, 0, 9)
		for _, over := range both {
			for _, p := range noPages(n) {
				if p >= 0 && p < pages(n) {
					continue
				}
				for _, count := range []int{0, 1, n % perPage, perPage, n, 70} {
					is(t, fmt.Sprintf("Load(%t, %d) of %d", over, p, count), x.m.Load(over, p, make([]int, count)...), false)
				}
				are(t, fmt.Sprintf("Page(%t, %d)", over, p), x.m.Page(over, p), nil)
			}
		}
		x.stands("no page")
	}
}

func TestP16_1PageIsNotShared(t *testing.T) {
	for _, n := range few {
		x := full(t, n, 2, places())
		for _, over := range both {
			for p := range pages(n) {
				want := x.page(over, p)
				one, other := x.m.Page(over, p), x.m.Page(over, p)
				for i := range one[:cap(one)] {
					one[:cap(one)][i] = 999
				}
				_ = append(one, 1, 2, 3)
				are(t, "another answer", other, want)
				x.stands("what Page told was turned")
				x.one(over, p*perPage, 44)
				are(t, "an elder answer", other, want)
			}
		}
	}
}

func TestP16_1LoadKeepsNothing(t *testing.T) {
	for _, n := range few {
		for _, over := range both {
			for p := range pages(n) {
				x := made(t, n)
				page := x.page(over, p)
				l := append(page, noSectors...)
				for i := range page {
					l[i] = 50 + i
				}
				given := slices.Clone(l)
				x.load(over, p, l[:len(page)]...)
				are(t, "what Load was given", l, given)
				x.load(over, p, l...)
				are(t, "what Load was given, and more", l, given)
				x.one(over, p*perPage, 44)
				x.forget()
				x.some(false, 0, n)
				are(t, "the image turned", l, given)
				clear(l)
				x.stands("what Load was given turned")
				x.load(over, p, given...)
				x.stands("loaded again")
			}
		}
	}
}

// Each table's pages are dirty by themselves, and Clean is for both.
func TestP16_1DirtyAndClean(t *testing.T) {
	for _, n := range sizes {
		x := made(t, n)
		x.clean()
		x.stands("nothing dirty, cleaned")
		for p := pages(n) - 1; p >= 0; p-- {
			x.one(p%2 == 0, p*perPage, 8)
			x.stands("one page more")
		}
		for p := range pages(n) {
			x.one(p%2 == 1, p*perPage, 8)
			x.stands("one page of the other table more")
		}
		x.clean()
		x.stands("cleaned")
		x.one(true, n-1, 8)
		x.one(false, n-1, 9)
		x.stands("dirty behind a Clean")
		x.clean()
		x.one(true, n-1, 8)
		x.one(false, n-1, 9)
		x.stands("the same behind a Clean")
	}
}

// A walk tells what is dirty when it is gone through.
func TestP16_1DirtyWalks(t *testing.T) {
	for _, over := range both {
		x := made(t, most)
		walk, other := x.m.Dirty(over), x.m.Dirty(!over)
		are(t, "nothing", slices.Collect(walk), nil)
		for _, b := range []int{63, 1, 33} {
			x.one(over, b, 5)
		}
		want := []int{0, 2, 4}
		for k := 1; k <= 4; k++ {
			are(t, "stopped", stopped(walk, k), want[:min(k, 3)])
			are(t, "again", slices.Collect(walk), want)
			are(t, "the other table's", slices.Collect(other), nil)
		}
		for range walk {
			are(t, "within another", slices.Collect(walk), want)
		}
		x.one(over, 20, 5)
		are(t, "dirtied between", slices.Collect(walk), []int{0, 1, 2, 4})
		x.load(over, 2, x.page(over, 2)...)
		are(t, "loaded between", slices.Collect(walk), []int{0, 1, 4})
		x.clean()
		are(t, "cleaned between", slices.Collect(walk), nil)
	}
}

func TestP16_1Apart(t *testing.T) {
	x, y := full(t, 20, 0, places()), full(t, 20, 0, places())
	for b := range 20 {
		x.one(true, b, 5)
		x.one(false, b, 6)
	}
	x.commit()
	x.some(true, 0, 20)
	x.stands("one image")
	y.stands("the other one")
}

func TestP16_2Example(t *testing.T) {
	x := made(t, 20)
	at, ok := x.m.Write(3, 50)
	is(t, "Write(3, 50)", fmt.Sprint(at, ok), "0 true")
	at, ok = x.m.Write(3, 60)
	is(t, "Write(3, 60)", fmt.Sprint(at, ok), "50 true")
	is(t, "Pending", x.m.Pending(), 1)
	are(t, "Commit", x.m.Commit(), nil)
	x.refs[0][3], x.dirty[0][0], x.dirty[1][0] = 60, true, true
	x.stands("behind a Commit")
}

func TestP16_2WriteEachBlock(t *testing.T) {
	for _, n := range sizes {
		for _, over := range both {
			x := made(t, n)
			for b := range n {
				x.one(over, b, 100+b)
				x.stands("where nothing was")
				x.clean()
				x.one(over, b, 100+b)
				x.stands("the same")
				x.one(over, b, 101+b)
				x.stands("another one")
				x.clean()
			}
			for b := n - 1; b >= 0; b-- {
				for _, at := range sectors {
					x.one(over, b, at)
					x.stands("each sector")
				}
			}
		}
	}
}

// The ref that went is that of the same table, if it was above 0 and is another one.
func TestP16_2WriteWhatWent(t *testing.T) {
	for _, refs := range places() {
		for _, at := range append(sectors, 700, 800) {
			for _, over := range both {
				x := full(t, 16, 0, [][2]int{refs})
				x.one(over, 15, at)
				x.stands(fmt.Sprintf("%d over %v", at, refs))
				x.one(over, 0, at)
				x.stands(fmt.Sprintf("%d over %v", at, refs))
			}
		}
	}
}

func TestP16_2WriteNowhere(t *testing.T) {
	for _, n := range sizes {
		x := full(t, n, 7, places())
		x.one(true, n-1, 3)
		for _, call := range []func(b, at int) (int, bool){x.m.Write, x.m.Put} {
			refused := func(b, at int) {
				if got, ok := call(b, at); got != 0 || ok {
					t.Errorf("of %d blocks (%d, %d): got %d, %t", n, b, at, got, ok)
				}
			}
			for _, at := range noSectors {
				for b := range n {
					refused(b, at)
				}
			}
			for _, b := range noBlocks(n) {
				if b >= 0 && b < n {
					continue
				}
				for _, at := range sectors {
					refused(b, at)
				}
				for _, at := range noSectors {
					refused(b, at)
				}
			}
		}
		x.stands("nothing written")
	}
}

func TestP16_2TrimEach(t *testing.T) {
	for _, n := range sizes {
		for _, over := range both {
			for b := range n {
				x := full(t, n, b, places())
				for count := 1; count <= n-b; count++ {
					x.some(over, b, count)
					x.stands("one more")
				}
				x = full(t, n, b, places())
				x.some(over, b, n-b)
				x.stands("to the last block")
				x.clean()
				x.some(over, b, n-b)
				x.some(over, b, 1)
				x.stands("again")
			}
		}
	}
}

func TestP16_2TrimWrong(t *testing.T) {
	for _, n := range sizes {
		x := full(t, n, 4, places())
		x.one(false, 0, 3)
		for _, call := range []func(b, n int) ([]int, bool){x.m.Trim, x.m.Drop} {
			refused := func(b, count int) {
				if l, ok := call(b, count); len(l) > 0 || ok {
					t.Errorf("of %d blocks (%d, %d): got %v, %t", n, b, count, l, ok)
				}
			}
			for b := range n {
				for _, more := range []int{1, 2, perPage, most, 256, 65536} {
					refused(b, n-b+more)
				}
				for _, count := range append([]int{0, -1, -n, math.MaxInt - b, math.MinInt + b, math.MinInt - b, 1<<32 + n - b}, far...) {
					refused(b, count)
				}
			}
			for _, b := range append(noBlocks(n), -n) {
				if b >= 0 && b < n {
					continue
				}
				for _, count := range append([]int{0, 1, 2, -1, n, n - b, n + 1, -b, 1 - b, 2 - b, math.MaxInt - b, math.MinInt - b}, far...) {
					refused(b, count)
				}
			}
		}
		x.stands("nothing trimmed")
	}
}

func TestP16_2Commit(t *testing.T) {
	l := places()
	for _, n := range sizes {
		for k := range l {
			x := full(t, n, k, l)
			x.commit()
			x.stands("committed")
			x.commit()
			x.stands("committed twice")
			x.clean()
			x.commit()
			x.forget()
			x.stands("nothing pending, cleaned")
		}
	}
}

func TestP16_2Forget(t *testing.T) {
	l := places()
	for _, n := range sizes {
		for k := range l {
			x := full(t, n, k, l)
			x.forget()
			x.stands("forgotten")
			x.forget()
			x.stands("forgotten twice")
			x.clean()
			x.forget()
			x.commit()
			x.stands("nothing pending, cleaned")
		}
	}
}

// One pending block alone, of each pair of refs, at each block.
func TestP16_2CommitOne(t *testing.T) {
	for _, n := range few {
		for b := range n {
			for _, refs := range places() {
				for _, commit := range both {
					x := full(t, n, 0, [][2]int{{refs[0], -1}})
					if refs[1] > 0 {
						x.one(true, b, refs[1])
					} else if refs[1] == 0 {
						x.some(true, b, 1)
					}
					x.clean()
					if commit {
						x.commit()
					} else {
						x.forget()
					}
					x.stands(fmt.Sprintf("%v of block %d", refs, b))
				}
			}
		}
	}
}

// What went is told by block, whichever was written first.
func TestP16_2CommitInOrder(t *testing.T) {
	x := made(t, most)
	for b := range most {
		x.one(false, b, 2000-b)
	}
	for k := range most {
		b := k * 37 % most
		x.one(true, b, 100+k)
	}
	var want []int
	for b := range most {
		want = append(want, 2000-b)
	}
	are(t, "Commit", x.m.Commit(), want)
	for k := range most {
		x.m.Write(k*37%most, 1000-k*37%most)
	}
	for b := range want {
		want[b] = 1000 - b
	}
	are(t, "Forget", x.m.Forget(), want)
}

func TestP16_2CommitNothing(t *testing.T) {
	for _, n := range sizes {
		x := made(t, n)
		x.commit()
		x.forget()
		x.stands("of a new one")
		for b := range n {
			x.one(false, b, 5+b)
		}
		x.clean()
		x.commit()
		x.forget()
		x.stands("nothing pending")
	}
}

// What is told is the caller's own.
func TestP16_2ToldIsNotShared(t *testing.T) {
	calls := func(x *bench) []func() []int {
		return []func() []int{
			func() []int { l, _ := x.m.Trim(0, 20); return l },
			func() []int { l, _ := x.m.Drop(0, 20); return l },
			x.m.Commit,
			x.m.Forget,
		}
	}
	for k := range 4 {
		x, y := full(t, 20, 1, places()), full(t, 20, 1, places())
		l := calls(x)[k]()
		want := slices.Clone(l)
		for i := range l[:cap(l)] {
			l[:cap(l)][i] = 999
		}
		are(t, "another one's", calls(y)[k](), want)
		for _, over := range both {
			for p := range 2 {
				are(t, "the image behind it", x.m.Page(over, p), y.m.Page(over, p))
			}
		}
		l = append(l[:0], want...)
		x.m.Write(0, 5)
		x.m.Put(1, 5)
		x.m.Commit()
		are(t, "what was told, behind more", l, want)
	}
}

func TestP16_3Move(t *testing.T) {
	for _, n := range few {
		for _, b := range []int{0, n / 2, n - 1} {
			for _, refs := range places() {
				for _, old := range []int{1, 2, 699, 700, 701, 800, top - 1, top, top + 1, 2 * top, math.MaxInt, 1 << 32, 1<<32 + 700} {
					for _, at := range []int{1, 2, 700, 800, top - 1, top} {
						x := full(t, n, 0, [][2]int{refs})
						x.move(b, old, at)
						x.stands(fmt.Sprintf("Move(%d, %d, %d) of %v", b, old, at, refs))
					}
				}
			}
		}
	}
}

// Both have it: the base goes first, and the over behind it.
func TestP16_3MoveBoth(t *testing.T) {
	for b := range 20 {
		x := full(t, 20, 0, [][2]int{{700, 700}})
		for _, want := range []bool{true, true, false} {
			is(t, "Move", x.m.Move(b, 700, 701), want)
		}
		x.refs[0][b], x.refs[1][b] = 701, 701
		x.dirty[0][b/perPage], x.dirty[1][b/perPage] = true, true
		x.stands("moved twice")
		x.clean()
		is(t, "Move to where it is", x.m.Move(b, 701, 701), true)
		x.stands("moved to where it is")
	}
}

// An old one of 0 or less is none, though the tables have it.
func TestP16_3MoveOfNone(t *testing.T) {
	for _, n := range few {
		for k := range places() {
			x := full(t, n, k, places())
			for b := range n {
				for _, old := range append([]int{0, -1}, far...) {
					is(t, fmt.Sprintf("Move(%d, %d, 5)", b, old), x.m.Move(b, old, 5), false)
				}
			}
			x.stands("nothing moved")
		}
	}
}

func TestP16_3MoveNowhere(t *testing.T) {
	for _, n := range sizes {
		x := full(t, n, 0, [][2]int{{700, 800}})
		x.one(true, 0, 801)
		for _, old := range []int{0, 1, 700, 800, 801, -1} {
			for b := range n {
				for _, at := range noSectors {
					is(t, fmt.Sprintf("Move(%d, %d, %d)", b, old, at), x.m.Move(b, old, at), false)
				}
			}
			for _, b := range noBlocks(n) {
				for _, at := range append([]int{5, 700}, noSectors...) {
					if b < 0 || b >= n {
						is(t, fmt.Sprintf("Move(%d, %d, %d)", b, old, at), x.m.Move(b, old, at), false)
					}
				}
			}
		}
		x.stands("nothing moved")
	}
}

func TestP16_3RefAndLook(t *testing.T) {
	x := made(t, 20)
	asked := func(what string, b, ref, look int) {
		t.Helper()
		x.gets(what+": Ref", x.m.Ref, b, ref)
		x.gets(what+": Look", x.m.Look, b, look)
	}
	asked("untouched", 16, 0, 0)
	x.m.Put(16, 70)
	asked("put", 16, 70, 70)
	x.m.Write(16, 80)
	asked("written", 16, 70, 80)
	x.m.Trim(16, 1)
	asked("trimmed", 16, 70, 0)
	x.m.Put(16, 71)
	asked("put, and a trim pending", 16, 71, 0)
	x.m.Forget()
	asked("forgotten", 16, 71, 71)
	x.m.Trim(16, 1)
	x.m.Commit()
	asked("committed", 16, 0, 0)
	asked("another one", 15, 0, 0)
	x.lacks("no block", noBlocks(20)...)
}

func TestP16_3Pending(t *testing.T) {
	for _, n := range sizes {
		x := made(t, n)
		want := 0
		for b := range n {
			if b%2 == 0 {
				x.m.Write(b, 5)
			} else {
				x.m.Trim(b, 1)
			}
			want++
			is(t, "one more", x.m.Pending(), want)
			x.m.Write(b, 6)
			x.m.Put(b, 7)
			x.m.Trim(b, 1)
			x.m.Drop(b, 1)
			x.m.Clean()
			is(t, "the same", x.m.Pending(), want)
		}
		x.m.Commit()
		is(t, "committed", x.m.Pending(), 0)
		x.m.Trim(0, n)
		is(t, "all trimmed", x.m.Pending(), n)
		x.m.Forget()
		is(t, "forgotten", x.m.Pending(), 0)
		x.m.Put(0, 5)
		is(t, "put", x.m.Pending(), 0)
	}
}

func TestP16_3RefsEach(t *testing.T) {
	for _, refs := range places() {
		for b := range 16 {
			x := made(t, 16)
			for _, over := range both {
				l := x.page(over, b/perPage)
				l[b%perPage] = refs[which(over)]
				x.load(over, b/perPage, l...)
			}
			x.stands(fmt.Sprintf("%v of block %d alone", refs, b))
		}
	}
	x := made(t, 20)
	x.m.Write(3, 60)
	x.m.Put(3, 50)
	x.m.Write(4, 50)
	x.m.Put(5, top)
	x.m.Write(5, top)
	x.m.Write(19, 1)
	x.m.Trim(7, 2)
	are(t, "Refs", slices.Collect(paired(x.m.Refs())), [][2]int{{3, 50}, {3, 60}, {4, 50}, {5, top}, {5, top}, {19, 1}})
}

func TestP16_3RefsStopped(t *testing.T) {
	for _, n := range few {
		for k := range places() {
			x := full(t, n, k, places())
			walk, want := paired(x.m.Refs()), x.told()
			for count := 1; count <= len(want)+1; count++ {
				are(t, "stopped", stopped(walk, count), want[:min(count, len(want))])
				are(t, "again", slices.Collect(walk), want)
			}
		}
	}
}

// A walk that is stopped asks for nothing more.
func TestP16_3RefsStoppedForGood(t *testing.T) {
	x := full(t, 20, 0, [][2]int{{5, 6}, {7, -1}, {0, 8}, {0, 0}})
	for at := range x.told() {
		calls := 0
		x.m.Refs()(func(int, int) bool {
			calls++
			return calls <= at
		})
		is(t, "calls of yield", calls, at+1)
	}
}

func TestP16_3RefsTurnedBetween(t *testing.T) {
	x := made(t, 20)
	walk := paired(x.m.Refs())
	as := func(what string) {
		t.Helper()
		are(t, what, slices.Collect(walk), x.told())
		x.stands(what)
	}
	as("nothing")
	x.one(true, 19, 5)
	as("written behind the call")
	x.one(false, 0, 6)
	are(t, "stopped", stopped(walk, 1), [][2]int{{0, 6}})
	as("put between")
	x.commit()
	as("committed between")
	x.one(true, 19, 7)
	x.move(19, 5, 8)
	as("moved between")
	x.forget()
	as("forgotten between")
	x.load(false, 1, 1, 2, 3, 4, 0)
	as("loaded between")
	x.clean()
	x.some(false, 0, 20)
	as("dropped between")
}

func TestP16_3RefsWithinAnother(t *testing.T) {
	x := full(t, 20, 3, places())
	walk, want := paired(x.m.Refs()), x.told()
	var out [][2]int
	for pair := range walk {
		out = append(out, pair)
		are(t, "within itself", slices.Collect(walk), want)
		are(t, "within itself, stopped", stopped(walk, 2), want[:2])
		are(t, "another one within it", slices.Collect(paired(x.m.Refs())), want)
	}
	are(t, "outside", out, want)
}

// Of a walk in whose midst all is turned nothing is promised, but that it ends; the
// next one is as it should be.
func TestP16_3RefsTurnedInTheMidst(t *testing.T) {
	for at := range 30 {
		x := full(t, 20, 1, [][2]int{{5, 6}, {7, 8}})
		steps := 0
		for b := range x.m.Refs() {
			if steps++; steps == at {
				x.some(true, 0, b+1)
				x.commit()
				x.one(true, 19, 9)
				x.one(false, b, 10)
				x.clean()
			}
		}
		is(t, "it ends", steps <= 40, true)
		x.stands("turned in the midst")
	}
}

// nothing fails unless an image answers as one that is not there.
func nothing(t *testing.T, m *image.Image) {
	t.Helper()
	for _, n := range append([]int{0, 1, 5, most}, far...) {
		for _, at := range []int{-1, 0, 1, 5, top, n} {
			for _, call := range []func(int, int) (int, bool){m.Write, m.Put} {
				got, ok := call(n, at)
				is(t, "Write, Put", fmt.Sprint(got, ok), "0 false")
			}
			for _, call := range []func(int, int) ([]int, bool){m.Trim, m.Drop} {
				got, ok := call(n, at)
				is(t, "Trim, Drop", fmt.Sprint(len(got), ok), "0 false")
			}
			is(t, "Move", m.Move(n, 1, at), false)
			is(t, "Move", m.Move(n, at, 1), false)
			is(t, "Move", m.Move(0, n, at), false)
		}
		for _, call := range []func(int) (int, bool){m.Ref, m.Look} {
			got, ok := call(n)
			is(t, "Ref, Look", fmt.Sprint(got, ok), "0 false")
		}
		for _, over := range both {
			are(t, "Page", m.Page(over, n), nil)
			for count := range 20 {
				is(t, "Load", m.Load(over, n, make([]int, count)...), false)
				is(t, "Load of -1", m.Load(over, n, slices.Repeat([]int{-1}, count)...), false)
			}
		}
	}
	m.Clean()
	is(t, "Blocks, Pending", m.Blocks()+m.Pending(), 0)
	are(t, "Commit", m.Commit(), nil)
	are(t, "Forget", m.Forget(), nil)
	for range 2 {
		are(t, "Dirty of the base", slices.Collect(m.Dirty(false)), nil)
		are(t, "Dirty of the over", slices.Collect(m.Dirty(true)), nil)
		are(t, "Refs", slices.Collect(paired(m.Refs())), nil)
		for range m.Refs() {
			t.Error("Refs of none tells something")
		}
	}
}

func TestP16_3Nil(t *testing.T) {
	nothing(t, nil)
	nothing(t, image.New(0))
}

// One that New did not make has nothing, too, and does not panic.
func TestP16_3NotMade(t *testing.T) {
	nothing(t, new(image.Image))
}

// rule picks numbers, one behind the other, by a fixed rule.
type rule uint32

func (r *rule) below(n int) int {
	*r = *r*1664525 + 1013904223
	return int(*r>>8) % n
}

// step does one call, or a wrong one, to both.
func (x *bench) step(r *rule) {
	n := len(x.refs[0])
	b := r.below(n)
	over := r.below(2) == 0
	at := 1 + r.below(4) // few, so that many are like what is there
	if r.below(3) == 0 {
		at = 1 + r.below(top)
	}
	switch kind := r.below(40); {
	case kind < 14:
		x.one(over, b, at)
	case kind < 20:
		x.some(over, b, 1+r.below(min(n-b, 6)))
	case kind < 22:
		x.some(over, b, n-b)
	case kind < 29:
		old := at
		if r.below(3) > 0 {
			old = x.refs[which(over)][b]
		}
		x.move(b, old, 1+r.below(4))
	case kind < 31:
		x.commit()
	case kind < 33:
		x.forget()
	case kind < 34:
		x.clean()
	case kind < 37:
		x.loadAny(over, b/perPage, r)
	default:
		x.m.Write(n, at)
		x.m.Put(b, top+at)
		x.m.Trim(b, n-b+1)
		x.m.Drop(b, 0)
		x.m.Move(b, 0, at)
		x.m.Load(over, b/perPage)
	}
}

// loadAny loads a page with any refs, and sometimes with more.
func (x *bench) loadAny(over bool, p int, r *rule) {
	l := x.page(over, p)
	for i := range l {
		l[i] = r.below(5)
		if over {
			l[i]--
		}
	}
	x.load(over, p, append(l, noSectors[:r.below(3)]...)...)
}

// 600 steps picked by a fixed rule, on each number of blocks, beside a table that is
// kept by hand.
func TestP16_3AgainstHand(t *testing.T) {
	for n := 1; n <= most; n++ {
		r := rule(n)
		x := made(t, n)
		for k := range 600 {
			x.step(&r)
			x.stands(fmt.Sprintf("%d blocks, step %d", n, k))
			if t.Failed() {
				return
			}
		}
	}
}
