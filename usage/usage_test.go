package usage_test

import (
	"iter"
	"math"
	"slices"
	"strconv"
	"testing"

	"keelson/api"
	"keelson/geom"
	"keelson/usage"
)

const maxNum = 1<<31 - 1

// counts are numbers of segments of a device.
var counts = []int{8, 9, 12, 17, 31, 32}

// stamps are some that a segment may have, with the least and the greatest one.
var stamps = []int{0, 1, 2, 255, 256, 65536, 1<<24 + 7, maxNum - 1, maxNum}

// wrongStamps are none; some of them are one, if only their lowest four bytes, or
// those but the sign, are looked at.
var wrongStamps = []int{-1, -2, 1 << 31, 1<<31 + 1, 1<<32 - 1, 1 << 32, 1<<32 + 5, -maxNum, -1 << 31, -1 << 32, 1 << 62, math.MaxInt, math.MinInt, math.MinInt + 5}

// wrongStates are none.
var wrongStates = []int{-1, 3, -2, -3, 4, 5, 255, 256, 257, 1 << 31, 1 << 32, 1<<32 + 2, -1<<32 + 1, math.MaxInt, math.MinInt, math.MinInt + 1}

// row is what is told of a segment.
type row struct {
	state, stamp, live int
}

// states are what a segment may be, with and without live sectors.
var states = []row{{0, 5, 0}, {0, 6, 3}, {1, 7, 0}, {1, 8, 4}, {2, 9, 0}, {2, 10, 1}}

// outside are numbers that are no segment of n.
func outside(n int) []int {
	return []int{-1, n, -2, n + 1, -n, -n - 1, 2 * n, 64, 255, 256, 257, -256, 65536, 1<<31 - 1, 1 << 31, 1 << 32, 1<<32 + 1, -1 << 32, 1<<32 + n - 1, 1 << 62, math.MaxInt, math.MinInt, math.MinInt + 1}
}

// device is a geometry of so many segments; the chapter's, if they are 8.
func device(t *testing.T, segs int) *geom.Geom {
	t.Helper()
	g, e := geom.New(api.Config{Blocks: 20, Segs: segs, Len: 24})
	if e != api.OK {
		t.Fatalf("geom.New of %d segments: got error %d", segs, e)
	}
	return g
}

// made is a table with these uses.
func made(t *testing.T, g *geom.Geom, l ...api.Use) *usage.Table {
	t.Helper()
	x := usage.New(g, l...)
	if x == nil {
		t.Fatalf("New of %d segments with %v: got nil", g.Config().Segs, l)
	}
	return x
}

// of is a table of just these segments.
func of(t *testing.T, rows ...row) *usage.Table {
	t.Helper()
	g := device(t, len(rows))
	x := made(t, g, uses(rows)...)
	for s, r := range rows {
		if r.live != 0 {
			adds(t, x, g.Seg(s), r.live)
		}
	}
	return x
}

// uses is the States and Stamps of these.
func uses(rows []row) []api.Use {
	l := make([]api.Use, len(rows))
	for s, r := range rows {
		l[s] = api.Use{State: r.state, Stamp: r.stamp}
	}
	return l
}

// released is what these are behind a Release, and which ones it frees.
func released(rows []row) (out []row, freed []int) {
	out = slices.Clone(rows)
	for s, r := range rows {
		if r.state == 2 && r.live == 0 {
			out[s].state = 0
			freed = append(freed, s)
		}
	}
	return out, freed
}

// with is the numbers of those in a state.
func with(rows []row, state int) []int {
	var l []int
	for s, r := range rows {
		if r.state == state {
			l = append(l, s)
		}
	}
	return l
}

// is fails unless a call answered that.
func is[T comparable](t *testing.T, what string, got, want T) {
	t.Helper()
	if got != want {
		t.Errorf("%s: got %v, want %v", what, got, want)
	}
}

// are fails unless a call answered those.
func are[T comparable](t *testing.T, what string, got, want []T) {
	t.Helper()
	if !slices.Equal(got, want) {
		t.Errorf("%s: got %v, want %v", what, got, want)
	}
}

// adds fails unless live sectors can be added.
func adds(t *testing.T, x *usage.Table, at, by int) {
	t.Helper()
	if !x.Add(at, by) {
		t.Errorf("Add(%d, %d): got false", at, by)
	}
}

// takes fails unless a segment is taken, and it is that one.
func takes(t *testing.T, x *usage.Table, spare bool, want int) {
	t.Helper()
	if s, ok := x.Take(spare); s != want || !ok {
		t.Errorf("Take(%t): got %d, %t, want %d, true", spare, s, ok, want)
	}
}

// takesNone fails if a segment is taken.
func takesNone(t *testing.T, x *usage.Table, spare bool) {
	t.Helper()
	if s, ok := x.Take(spare); s != 0 || ok {
		t.Errorf("Take(%t): got %d, %t, want 0, false", spare, s, ok)
	}
}

// stands fails unless a table, whichever way it is asked, is just these.
func stands(t *testing.T, what string, x *usage.Table, rows []row) {
	t.Helper()
	for s, r := range rows {
		at := what + ": segment " + strconv.Itoa(s)
		is(t, at, row{x.State(s), x.Stamp(s), x.Live(s)}, r)
	}
	for _, s := range outside(len(rows)) {
		if s < 0 || s >= len(rows) {
			is(t, what+": no segment", row{x.State(s), x.Stamp(s), x.Live(s)}, row{})
		}
	}
	is(t, what+": Free", x.Free(), len(with(rows, 0)))
	are(t, what+": Uses(false)", x.Uses(false), uses(rows))
	behind, _ := released(rows)
	are(t, what+": Uses(true)", x.Uses(true), uses(behind))
	are(t, what+": Sealed", slices.Collect(x.Sealed()), with(rows, 2))
}

// mixed is n segments that go through the states.
func mixed(n int) []row {
	rows := make([]row, n)
	for s := range rows {
		rows[s] = row{state: (s + s/3) % 3, stamp: 1000*s + 7}
	}
	return rows
}

// stopped is what a walk tells till it is stopped behind its n-th step.
func stopped(walk iter.Seq[int], n int) []int {
	var l []int
	for s := range walk {
		if l = append(l, s); len(l) == n {
			break
		}
	}
	return l
}

// fours are all tables of eight segments with each state, live and not, of the
// first two and the last two.
func fours() iter.Seq[[]row] {
	return func(yield func([]row) bool) {
		n := len(states)
		for i := range n * n * n * n {
			rows := make([]row, 8)
			for s := range rows {
				rows[s] = states[(s*s+3)%n]
			}
			rows[0], rows[1], rows[6], rows[7] = states[i%n], states[i/n%n], states[i/n/n%n], states[i/n/n/n]
			if !yield(rows) {
				return
			}
		}
	}
}

func TestP12_1NewOfNone(t *testing.T) {
	for segs := api.MinSegs; segs <= api.MaxSegs; segs++ {
		g := device(t, segs)
		stands(t, "without uses", made(t, g), make([]row, segs))
		stands(t, "with a nil list", made(t, g, []api.Use(nil)...), make([]row, segs))
		stands(t, "with an empty list", made(t, g, make([]api.Use, 0, 40)...), make([]row, segs))
		stands(t, "with zeros", made(t, g, make([]api.Use, segs)...), make([]row, segs))
	}
}

func TestP12_1NewOfUses(t *testing.T) {
	for segs := api.MinSegs; segs <= api.MaxSegs; segs++ {
		rows := mixed(segs)
		stands(t, "mixed", made(t, device(t, segs), uses(rows)...), rows)
		for state := range 3 {
			for s := range rows {
				rows[s] = row{state: state, stamp: stamps[s%len(stamps)]}
			}
			stands(t, "all alike", made(t, device(t, segs), uses(rows)...), rows)
		}
	}
}

func TestP12_1NewEachPlace(t *testing.T) {
	for _, segs := range counts {
		for s := range segs {
			for state := range 3 {
				for _, stamp := range stamps {
					rows := mixed(segs)
					rows[s] = row{state: state, stamp: stamp}
					stands(t, "one of another kind", made(t, device(t, segs), uses(rows)...), rows)
				}
			}
		}
	}
}

func TestP12_1NewCounts(t *testing.T) {
	for segs := api.MinSegs; segs <= api.MaxSegs; segs++ {
		g := device(t, segs)
		for n := range 100 {
			is(t, "New of "+strconv.Itoa(n)+" for "+strconv.Itoa(segs), usage.New(g, make([]api.Use, n)...) != nil, n == 0 || n == segs)
		}
		for _, n := range []int{segs + 256, segs << 8, segs + 65536, segs << 16} {
			is(t, "New of far too many", usage.New(g, make([]api.Use, n)...), nil)
		}
		is(t, "New of one wrong one", usage.New(g, api.Use{State: 3}), nil)
	}
}

// What may be looked at is how many there are, not how many there is room for.
func TestP12_1NewCountNotRoom(t *testing.T) {
	g := device(t, 8)
	room := make([]api.Use, 8, 20)
	room[:9][8] = api.Use{State: 9, Stamp: -9}
	stands(t, "with room behind", made(t, g, room...), make([]row, 8))
	is(t, "one less than there is room for", usage.New(g, make([]api.Use, 7, 8)...), nil)
}

func TestP12_1NewWrongUses(t *testing.T) {
	for _, segs := range counts {
		g := device(t, segs)
		for s := range segs {
			for _, state := range wrongStates {
				l := uses(mixed(segs))
				l[s].State = state
				is(t, "New with State "+strconv.Itoa(state), usage.New(g, l...), nil)
			}
			for _, stamp := range wrongStamps {
				for state := range 3 {
					l := uses(mixed(segs))
					l[s] = api.Use{State: state, Stamp: stamp}
					is(t, "New with Stamp "+strconv.Itoa(stamp), usage.New(g, l...), nil)
				}
			}
		}
	}
}

func TestP12_1NewOfNil(t *testing.T) {
	for n := range 40 {
		is(t, "New of a nil Geom", usage.New(nil, make([]api.Use, n)...), nil)
	}
	is(t, "New of a nil Geom and a wrong use", usage.New(nil, api.Use{State: 3}), nil)
	none, e := geom.New(api.Config{Blocks: 20, Segs: 7, Len: 24})
	is(t, "geom.New", e, api.ErrArg)
	is(t, "New of what geom.New refused", usage.New(none), nil)
}

func TestP12_1NewKeepsNothing(t *testing.T) {
	for _, segs := range counts {
		rows := mixed(segs)
		l := uses(rows)
		x := made(t, device(t, segs), l...)
		are(t, "the uses behind New", l, uses(rows))
		for s := range l {
			l[s] = api.Use{State: (l[s].State + 1) % 3, Stamp: 99}
		}
		stands(t, "the uses turned", x, rows)
		given := slices.Clone(l)
		x = made(t, device(t, segs), l...)
		x.Take(true)
		x.Seal(2)
		x.Touch(0, 5)
		x.Release()
		are(t, "the table turned", l, given)
	}
}

// A Geom that is made another one behind New does not turn the table.
func TestP12_1NewKeepsItsGeom(t *testing.T) {
	g := device(t, 8)
	x := made(t, g)
	*g = *device(t, 32)
	is(t, "the first sector", x.Add(14, 2), true)
	is(t, "just beyond", x.Add(206, 1), false)
	is(t, "the other one's last sector", x.Add(g.Sectors()-1, 1), false)
	stands(t, "the geometry turned", x, []row{{live: 2}, {}, {}, {}, {}, {}, {}, {}})
}

func TestP12_1Apart(t *testing.T) {
	g := device(t, 8)
	l := uses(mixed(8))
	a, b := made(t, g, l...), made(t, g, l...)
	a.Take(true)
	a.Seal(1)
	a.Touch(3, 1)
	a.Release()
	adds(t, a, g.Seg(4), 3)
	stands(t, "the other table", b, mixed(8))
}

func TestP12_1AddExample(t *testing.T) {
	x := made(t, device(t, 8))
	adds(t, x, 14, 2)
	adds(t, x, 37, 1)
	adds(t, x, 38, 5)
	adds(t, x, 205, 4)
	want := []row{{live: 3}, {live: 5}, {}, {}, {}, {}, {}, {live: 4}}
	stands(t, "behind four of Add", x, want)
	for _, at := range []int{0, 13, -1, 206, 207, 4096} {
		is(t, "Add of a sector in none", x.Add(at, 1), false)
	}
	stands(t, "behind Add of sectors in none", x, want)
	adds(t, x, 20, -3)
	adds(t, x, 60, -1)
	adds(t, x, 190, 0)
	want[0].live, want[1].live = 0, 4
	stands(t, "behind less", x, want)
}

// configs are some with each number at its least and its greatest, and between.
func configs() []api.Config {
	var l []api.Config
	for _, blocks := range []int{1, 20, 64} {
		for _, segs := range counts {
			for _, size := range []int{24, 33, 64} {
				l = append(l, api.Config{Blocks: blocks, Segs: segs, Len: size})
			}
		}
	}
	return l
}

func TestP12_1AddEachSector(t *testing.T) {
	for _, c := range configs() {
		g, e := geom.New(c)
		is(t, "geom.New", e, api.OK)
		x := made(t, g)
		rows := make([]row, c.Segs)
		for at := -3; at < g.Sectors()+3; at++ {
			in := at >= g.Seg(0) && at < g.Sectors()
			is(t, "Add at "+strconv.Itoa(at), x.Add(at, at), in)
			if in {
				rows[(at-g.Seg(0))/c.Len].live += at
			}
		}
		stands(t, "each sector by its number", x, rows)
	}
}

func TestP12_1AddNowhere(t *testing.T) {
	for _, segs := range counts {
		g := device(t, segs)
		rows := mixed(segs)
		x := made(t, g, uses(rows)...)
		adds(t, x, g.Seg(0), 5)
		adds(t, x, g.Seg(segs-1), 5)
		rows[0].live, rows[segs-1].live = 5, 5
		far := []int{-1 << 31, 1 << 31, 1 << 32, 1<<32 + g.Seg(0), -1<<32 + g.Seg(0), 1 << 62, math.MaxInt, math.MinInt, math.MinInt + g.Seg(0)}
		for _, at := range append(far, g.Seg(0)-1, g.Sectors(), -g.Seg(0), -g.Seg(1), 0, -1) {
			for _, by := range []int{1, -1, 0, 7, maxNum, math.MaxInt, math.MinInt} {
				is(t, "Add at "+strconv.Itoa(at), x.Add(at, by), false)
			}
		}
		stands(t, "nothing added", x, rows)
	}
}

// sums are how many are live, by how many more, and how many then.
var sums = [][3]int{
	{0, 0, 0}, {0, 1, 1}, {1, 0, 1}, {1, 1, 2}, {2, 1, 3}, {3, -1, 2}, {3, -3, 0},
	{0, -1, 0}, {3, -4, 0}, {3, -5, 0}, {1, -maxNum, 0}, {1, -1 << 31, 0}, {1, -1 << 32, 0}, {0, math.MinInt, 0}, {5, math.MinInt, 0}, {5, math.MinInt + 5, 0}, {5, math.MinInt + 6, 0},
	{0, maxNum, maxNum}, {1, maxNum - 1, maxNum}, {0, maxNum - 1, maxNum - 1}, {5, maxNum - 5, maxNum}, {5, maxNum - 6, maxNum - 1},
	{0, maxNum + 1, maxNum}, {1, maxNum, maxNum}, {5, maxNum - 4, maxNum}, {5, maxNum, maxNum}, {0, 1 << 32, maxNum}, {0, 1<<32 + 1, maxNum}, {7, 1<<32 - 1, maxNum}, {0, math.MaxInt, maxNum}, {5, math.MaxInt, maxNum}, {5, math.MaxInt - 5, maxNum}, {5, math.MaxInt - 4, maxNum},
	{maxNum, 0, maxNum}, {maxNum, 1, maxNum}, {maxNum, -1, maxNum - 1}, {maxNum - 1, 1, maxNum}, {maxNum - 1, 2, maxNum}, {maxNum, maxNum, maxNum}, {maxNum, -maxNum, 0}, {maxNum, -maxNum + 1, 1}, {maxNum, -maxNum - 1, 0}, {maxNum, math.MaxInt, maxNum}, {maxNum, math.MaxInt - maxNum, maxNum}, {maxNum, math.MaxInt - maxNum + 1, maxNum}, {maxNum, math.MinInt, 0},
}

func TestP12_1AddHeld(t *testing.T) {
	for state := range 3 {
		for s := range 8 {
			for _, n := range sums {
				g := device(t, 8)
				rows := make([]row, 8)
				for i := range rows {
					rows[i] = row{state: 1, stamp: i, live: 10 + i}
				}
				rows[s] = row{state: state, stamp: 70, live: n[0]}
				x := of(t, rows...)
				adds(t, x, g.Seg(s)+3*s, n[1])
				rows[s].live = n[2]
				stands(t, strconv.Itoa(n[0])+" by "+strconv.Itoa(n[1]), x, rows)
			}
		}
	}
}

// What went beyond is not kept: less is less from MaxNum, or from 0, on.
func TestP12_1AddBackFromBeyond(t *testing.T) {
	x := made(t, device(t, 8))
	for range 3 {
		adds(t, x, 14, math.MaxInt)
		adds(t, x, 14, maxNum)
		adds(t, x, 14, -1)
		is(t, "less from the top", x.Live(0), maxNum-1)
		adds(t, x, 14, math.MinInt)
		adds(t, x, 14, -5)
		adds(t, x, 14, 1)
		is(t, "more from the bottom", x.Live(0), 1)
	}
}

func TestP12_1TouchEach(t *testing.T) {
	for _, segs := range counts {
		rows := mixed(segs)
		x := made(t, device(t, segs), uses(rows)...)
		for s := range rows {
			for _, stamp := range stamps {
				x.Touch(s, stamp)
				rows[s].stamp = stamp
				stands(t, "touched", x, rows)
			}
			x.Touch(s, 40+s)
			x.Touch(s, 30+s)
			rows[s].stamp = 30 + s
			stands(t, "touched with less", x, rows)
		}
	}
}

func TestP12_1TouchLive(t *testing.T) {
	for _, r := range states {
		rows := []row{states[5], states[3], states[1], r, states[4], states[0], r, r}
		x := of(t, rows...)
		x.Touch(3, 444)
		rows[3].stamp = 444
		x.Touch(7, 0)
		rows[7].stamp = 0
		stands(t, "touched", x, rows)
	}
}

func TestP12_1TouchNothing(t *testing.T) {
	for _, segs := range counts {
		rows := mixed(segs)
		x := made(t, device(t, segs), uses(rows)...)
		for s := range rows {
			for _, stamp := range wrongStamps {
				x.Touch(s, stamp)
			}
		}
		stands(t, "wrong Stamps", x, rows)
		for _, s := range outside(segs) {
			if s < 0 || s >= segs {
				x.Touch(s, 5)
				x.Touch(s, 0)
				x.Touch(s, -1)
			}
		}
		stands(t, "no segments", x, rows)
	}
}

func TestP12_2Example(t *testing.T) {
	x := made(t, device(t, 8))
	for s := range 6 {
		takes(t, x, false, s)
	}
	takesNone(t, x, false)
	takes(t, x, true, 6)
	takes(t, x, true, 7)
	takesNone(t, x, true)
	takesNone(t, x, false)
	rows := make([]row, 8)
	for s := range rows {
		rows[s].state = 1
	}
	stands(t, "all taken", x, rows)
}

// Of each set of Free segments of the first eight that of the least number is
// taken, if they are more than are kept.
func TestP12_2TakeEachSet(t *testing.T) {
	for _, spare := range []bool{false, true} {
		for set := range 1 << 8 {
			rows := make([]row, 8)
			for s := range rows {
				rows[s] = row{state: 1 + s%2, stamp: 90 - s, live: s}
				if set>>s&1 == 1 {
					rows[s] = row{state: 0, stamp: 50 - s, live: s}
				}
			}
			x, free := of(t, rows...), with(rows, 0)
			if len(free) > 2 || spare && len(free) > 0 {
				takes(t, x, spare, free[0])
				rows[free[0]].state, rows[free[0]].live = 1, 0
			} else {
				takesNone(t, x, spare)
			}
			stands(t, "behind Take", x, rows)
		}
	}
}

func TestP12_2TakeAll(t *testing.T) {
	for segs := api.MinSegs; segs <= api.MaxSegs; segs++ {
		x := made(t, device(t, segs))
		rows := make([]row, segs)
		for s := range segs - api.Reserve {
			if s%2 == 1 {
				takes(t, x, false, s)
			} else {
				takes(t, x, true, s)
			}
			rows[s].state = 1
			stands(t, "taken", x, rows)
		}
		takesNone(t, x, false)
		stands(t, "just the reserve left", x, rows)
		takes(t, x, true, segs-2)
		takesNone(t, x, false)
		takes(t, x, true, segs-1)
		rows[segs-2].state, rows[segs-1].state = 1, 1
		takesNone(t, x, false)
		takesNone(t, x, true)
		stands(t, "none left", x, rows)
	}
}

// Take leaves the Stamp, and the others.
func TestP12_2TakeLeaves(t *testing.T) {
	for first := range 8 {
		rows := make([]row, 8)
		for s := range rows {
			rows[s] = row{state: 0, stamp: 11 * s, live: 1 + s}
			if s < first {
				rows[s].state = 2
			}
		}
		x := of(t, rows...)
		takes(t, x, true, first)
		rows[first].state, rows[first].live = 1, 0
		stands(t, "behind Take", x, rows)
	}
}

func TestP12_2GrabEach(t *testing.T) {
	for rows := range fours() {
		for s := range rows {
			x := of(t, rows...)
			want := slices.Clone(rows)
			is(t, "Grab of State "+strconv.Itoa(rows[s].state), x.Grab(s), rows[s].state == 0)
			if rows[s].state == 0 {
				want[s].state, want[s].live = 1, 0
			}
			stands(t, "behind Grab", x, want)
			is(t, "Grab again", x.Grab(s), false)
			stands(t, "behind Grab again", x, want)
		}
	}
}

// Grab, other than Take, keeps nothing back.
func TestP12_2GrabAll(t *testing.T) {
	for _, segs := range counts {
		rows := make([]row, segs)
		x := made(t, device(t, segs))
		for s := segs - 1; s >= 0; s-- {
			is(t, "Grab", x.Grab(s), true)
			rows[s].state = 1
			stands(t, "grabbed", x, rows)
		}
		for _, s := range outside(segs) {
			is(t, "Grab of none left", x.Grab(s), false)
		}
	}
}

func TestP12_2OfNoSegment(t *testing.T) {
	for _, segs := range counts {
		for _, rows := range [][]row{mixed(segs), make([]row, segs), slices.Repeat([]row{{state: 1}}, segs), slices.Repeat([]row{{state: 2}}, segs)} {
			x := made(t, device(t, segs), uses(rows)...)
			for _, s := range outside(segs) {
				if s < 0 || s >= segs {
					is(t, "Grab of no segment", x.Grab(s), false)
					x.Seal(s)
				}
			}
			stands(t, "behind those of no segment", x, rows)
		}
	}
}

func TestP12_2SealEach(t *testing.T) {
	for rows := range fours() {
		for s := range rows {
			x := of(t, rows...)
			want := slices.Clone(rows)
			if rows[s].state == 1 {
				want[s].state = 2
			}
			for range 2 {
				x.Seal(s)
				stands(t, "behind Seal", x, want)
			}
		}
	}
}

func TestP12_2ReleaseEach(t *testing.T) {
	for rows := range fours() {
		x := of(t, rows...)
		behind, freed := released(rows)
		are(t, "Release", x.Release(), freed)
		stands(t, "behind Release", x, behind)
		are(t, "Release right behind", x.Release(), nil)
		stands(t, "behind Release again", x, behind)
	}
}

func TestP12_2ReleaseNoneAndAll(t *testing.T) {
	for segs := api.MinSegs; segs <= api.MaxSegs; segs++ {
		for _, r := range states {
			rows := slices.Repeat([]row{r}, segs)
			x := of(t, rows...)
			behind, freed := released(rows)
			are(t, "Release of all alike", x.Release(), freed)
			is(t, "how many", len(freed) == segs, r == row{2, 9, 0})
			stands(t, "behind it", x, behind)
		}
	}
}

// One live sector keeps a segment, and none does not, whatever there was.
func TestP12_2ReleaseByLive(t *testing.T) {
	for _, n := range []int{1, 2, 22, 255, 256, 65536, 1 << 24, 1 << 30, maxNum} {
		rows := slices.Repeat([]row{{state: 1, live: 1}}, 8)
		rows[5] = row{state: 2, stamp: 4, live: n}
		x := of(t, rows...)
		are(t, "Release with live ones", x.Release(), nil)
		stands(t, "kept", x, rows)
		at := device(t, 8).Seg(5)
		adds(t, x, at, -n+1)
		are(t, "Release with a live one", x.Release(), nil)
		adds(t, x, at+23, -1)
		rows[5].live = 0
		stands(t, "none live", x, rows)
		are(t, "Release with none", x.Release(), []int{5})
		rows[5].state = 0
		stands(t, "freed", x, rows)
	}
}

// A segment goes round: what was live of it, and is added while it is Free, is
// gone when it is opened again.
func TestP12_2RoundAndRound(t *testing.T) {
	for _, take := range []bool{true, false} {
		g := device(t, 8)
		x := made(t, g)
		rows := make([]row, 8)
		for round := range 4 {
			if take {
				takes(t, x, false, 0)
			} else {
				is(t, "Grab", x.Grab(0), true)
			}
			rows[0].state, rows[0].live = 1, 0
			stands(t, "opened", x, rows)
			adds(t, x, g.Seg(0)+2, 3)
			are(t, "Release of an Open one", x.Release(), nil)
			x.Touch(0, 7*round)
			rows[0].live, rows[0].stamp = 3, 7*round
			stands(t, "filled", x, rows)
			x.Seal(0)
			are(t, "Release of one that lives", x.Release(), nil)
			rows[0].state = 2
			stands(t, "sealed", x, rows)
			adds(t, x, g.Seg(0)+9, -3)
			are(t, "Release of one that does not", x.Release(), []int{0})
			rows[0].state, rows[0].live = 0, 0
			stands(t, "freed", x, rows)
			adds(t, x, g.Seg(0)+1, 9)
			are(t, "Release of a Free one", x.Release(), nil)
			rows[0].live = 9
			stands(t, "live, though Free", x, rows)
		}
	}
}

// An Open one of which nothing is live is freed by no Release, and told as Free by
// no Uses, till it is Sealed.
func TestP12_2OnlySealedOnes(t *testing.T) {
	x := made(t, device(t, 8))
	takes(t, x, false, 0)
	rows := []row{{state: 1}, {}, {}, {}, {}, {}, {}, {}}
	are(t, "Release", x.Release(), nil)
	stands(t, "Open", x, rows)
	x.Seal(0)
	rows[0].state = 2
	stands(t, "Sealed", x, rows)
	is(t, "Uses(true)", x.Uses(true)[0].State, 0)
	is(t, "Uses(false)", x.Uses(false)[0].State, 2)
	are(t, "Release", x.Release(), []int{0})
	rows[0].state = 0
	stands(t, "Free", x, rows)
}

func TestP12_2UsesBesideRelease(t *testing.T) {
	for rows := range fours() {
		x := of(t, rows...)
		told := x.Uses(true)
		stands(t, "the table asked", x, rows)
		x.Release()
		are(t, "Uses(false) behind Release", x.Uses(false), told)
		are(t, "Uses(true) behind Release", x.Uses(true), told)
	}
}

func TestP12_2UsesTurned(t *testing.T) {
	for rows := range fours() {
		x := of(t, rows...)
		for _, free := range []bool{false, true} {
			a, b := x.Uses(free), x.Uses(free)
			for s := range a {
				a[s] = api.Use{State: 1 - a[s].State%2, Stamp: 77}
			}
			are(t, "the other answer", b, x.Uses(free))
			_ = append(a[:0], api.Use{State: 1, Stamp: 3})
		}
		stands(t, "what Uses told turned", x, rows)
	}
}

func TestP12_2ReleaseTurned(t *testing.T) {
	rows := slices.Repeat([]row{{state: 2}}, 8)
	x := of(t, rows...)
	freed := x.Release()
	for i := range freed {
		freed[i] = 70 + i
	}
	rows, _ = released(rows)
	stands(t, "what Release told turned", x, rows)
	is(t, "Grab", x.Grab(3), true)
	is(t, "Grab", x.Grab(5), true)
	x.Seal(3)
	x.Seal(5)
	are(t, "Release again", x.Release(), []int{3, 5})
	are(t, "what was told first", freed, []int{70, 71, 72, 73, 74, 75, 76, 77})
}

func TestP12_2SealedStoppedAndAgain(t *testing.T) {
	for rows := range fours() {
		x, sealed := of(t, rows...), with(rows, 2)
		walk := x.Sealed()
		are(t, "Sealed", slices.Collect(walk), sealed)
		for n := 1; n <= len(sealed)+1; n++ {
			are(t, "Sealed, stopped", stopped(walk, n), sealed[:min(n, len(sealed))])
			are(t, "Sealed, again", slices.Collect(walk), sealed)
		}
		stands(t, "gone through", x, rows)
	}
}

func TestP12_2SealedOfMany(t *testing.T) {
	for _, segs := range counts {
		for state := range 3 {
			rows := slices.Repeat([]row{{state: state}}, segs)
			x := of(t, rows...)
			are(t, "Sealed of all alike", slices.Collect(x.Sealed()), with(rows, 2))
			for n := 1; n <= segs; n++ {
				are(t, "Sealed, stopped", stopped(x.Sealed(), n), with(rows, 2)[:min(n, len(with(rows, 2)))])
			}
		}
	}
}

// A walk that is stopped asks for nothing more.
func TestP12_2SealedStoppedForGood(t *testing.T) {
	x := of(t, slices.Repeat([]row{{state: 2}}, 32)...)
	for at := range 32 {
		n := 0
		x.Sealed()(func(s int) bool {
			n++
			return s != at
		})
		is(t, "calls of yield", n, at+1)
	}
}

func TestP12_2SealedTurnedBetween(t *testing.T) {
	g := device(t, 8)
	x := made(t, g)
	walk := x.Sealed()
	are(t, "none", slices.Collect(walk), nil)
	for s := range 5 {
		takes(t, x, false, s)
	}
	are(t, "taken between", slices.Collect(walk), nil)
	for _, s := range []int{4, 0, 2} {
		x.Seal(s)
	}
	are(t, "sealed between", slices.Collect(walk), []int{0, 2, 4})
	are(t, "stopped", stopped(walk, 2), []int{0, 2})
	adds(t, x, g.Seg(2), 1)
	x.Seal(1)
	x.Release()
	are(t, "released between", slices.Collect(walk), []int{2})
	x.Grab(7)
	x.Seal(7)
	are(t, "grabbed and sealed between", slices.Collect(walk), []int{2, 7})
	x.Touch(2, 5)
	x.Seal(6)
	x.Grab(2)
	are(t, "nothing turned between", slices.Collect(walk), []int{2, 7})
}

// Two walks at once, of one call and of two, do not meet.
func TestP12_2SealedWithinAnother(t *testing.T) {
	rows := mixed(32)
	x, sealed := made(t, device(t, 32), uses(rows)...), with(rows, 2)
	walk := x.Sealed()
	var out []int
	for s := range walk {
		out = append(out, s)
		are(t, "within itself", slices.Collect(walk), sealed)
		are(t, "within itself, stopped", stopped(walk, 2), sealed[:2])
		are(t, "another one within it", slices.Collect(x.Sealed()), sealed)
	}
	are(t, "outside", out, sealed)
}

// Of those that are turned in the midst nothing is promised, but of the others.
func TestP12_2SealedTurnedInTheMidst(t *testing.T) {
	for at := range 8 {
		for turned := range 8 {
			rows := []row{{2, 1, 1}, {1, 2, 1}, {2, 3, 1}, {2, 4, 1}, {0, 5, 0}, {2, 6, 1}, {1, 7, 1}, {2, 8, 1}}
			x, g := of(t, rows...), device(t, 8)
			var out []int
			for s := range x.Sealed() {
				if s >= at {
					x.Seal(turned)
					adds(t, x, g.Seg(turned), -1)
					x.Release()
				}
				out = append(out, s)
			}
			other := func(l []int) []int {
				return slices.DeleteFunc(l, func(s int) bool { return s == turned })
			}
			are(t, "the others", other(out), other([]int{0, 2, 3, 5, 7}))
		}
	}
}

// nothing fails unless a table answers as one that is not there.
func nothing(t *testing.T, x *usage.Table) {
	t.Helper()
	for _, s := range append(outside(8), 0, 1, 7, 14, 38, 205) {
		is(t, "State", x.State(s), 0)
		is(t, "Live", x.Live(s), 0)
		is(t, "Stamp", x.Stamp(s), 0)
		for _, by := range []int{0, 1, -1, maxNum, math.MaxInt, math.MinInt} {
			is(t, "Add", x.Add(s, by), false)
		}
		is(t, "Grab", x.Grab(s), false)
		x.Touch(s, 1)
		x.Touch(s, -1)
		x.Seal(s)
	}
	for _, b := range []bool{false, true} {
		takesNone(t, x, b)
		are(t, "Uses", x.Uses(b), nil)
	}
	are(t, "Release", x.Release(), nil)
	is(t, "Free", x.Free(), 0)
	walk := x.Sealed()
	for range 2 {
		are(t, "Sealed", slices.Collect(walk), nil)
	}
}

func TestP12_2Nil(t *testing.T) {
	nothing(t, nil)
	nothing(t, usage.New(nil))
}

// One that New did not make, or made of a Geom without segments, has nothing, too,
// and does not panic.
func TestP12_2WithoutSegments(t *testing.T) {
	nothing(t, new(usage.Table))
	nothing(t, usage.New(new(geom.Geom)))
	is(t, "New of one segment too many", usage.New(new(geom.Geom), api.Use{}), nil)
}

func TestP12_3OneState(t *testing.T) {
	for rows := range fours() {
		x := of(t, rows...)
		sealed := slices.Collect(x.Sealed())
		free := 0
		for s := range rows {
			switch x.State(s) {
			case api.Free:
				free++
				is(t, "a Free one among Sealed", slices.Contains(sealed, s), false)
			case api.Open:
				is(t, "an Open one among Sealed", slices.Contains(sealed, s), false)
			case api.Sealed:
				is(t, "a Sealed one among Sealed", slices.Contains(sealed, s), true)
			default:
				t.Errorf("segment %d: State %d", s, x.State(s))
			}
		}
		is(t, "Free", x.Free(), free)
	}
}

// turn does one thing of a kind to a table and, by hand, to its rows.
func turn(t *testing.T, x *usage.Table, g *geom.Geom, rows []row, kind, s, n int) {
	t.Helper()
	r := &rows[s]
	switch kind {
	case 0, 1:
		free := with(rows, 0)
		if spare := kind == 1; len(free) > 2 || spare && len(free) > 0 {
			takes(t, x, spare, free[0])
			rows[free[0]].state, rows[free[0]].live = 1, 0
		} else {
			takesNone(t, x, spare)
		}
	case 2:
		is(t, "Grab", x.Grab(s), r.state == 0)
		if r.state == 0 {
			r.state, r.live = 1, 0
		}
	case 3, 4, 5:
		x.Seal(s)
		if r.state == 1 {
			r.state = 2
		}
	case 6:
		behind, freed := released(rows)
		are(t, "Release", x.Release(), freed)
		copy(rows, behind)
	case 7:
		x.Touch(s, n)
		r.stamp = n
	case 8:
		adds(t, x, g.Seg(s)+n%24, n%5)
		r.live += n % 5
	case 9, 10:
		adds(t, x, g.Seg(s)+n%24, -(n % 7))
		r.live = max(0, r.live-n%7)
	default:
		is(t, "Add ahead of the segments", x.Add(n%g.Seg(0), n), false)
		x.Touch(len(rows)+n, n)
		x.Touch(s, -1-n)
	}
}

// Beside the table go its segments, kept by hand, through steps that are picked by
// a fixed rule.
func TestP12_3AgainstHistory(t *testing.T) {
	for segs := api.MinSegs; segs <= api.MaxSegs; segs++ {
		g := device(t, segs)
		x, rows := made(t, g), make([]row, segs)
		seen := [3]int{}
		r := uint32(segs)
		next := func(below int) int {
			r = r*1664525 + 1013904223
			return int(r>>8) % below
		}
		for range 1000 {
			turn(t, x, g, rows, next(12), next(segs), next(1000))
			stands(t, "as by hand", x, rows)
			is(t, "Free", x.Free(), segs-len(with(rows, 1))-len(with(rows, 2)))
			for state := range seen {
				seen[state] = max(seen[state], len(with(rows, state)))
			}
		}
		is(t, "each state is seen", seen[0] > 2 && seen[1] > 2 && seen[2] > 2, true)
	}
}
