package victim_test

import (
	"math"
	"slices"
	"testing"

	"keelson/api"
	"keelson/geom"
	"keelson/usage"
	"keelson/victim"
)

const maxNum = 1<<31 - 1

// extremes are numbers of all sizes, as small and as large as an int may be, and
// those at the edges that the document names; some are others of them, if only
// their lowest four bytes are looked at.
var extremes = []int{
	math.MinInt, math.MinInt + 1, -1 << 62, -1<<32 - 1, -1 << 32, -1<<32 + 5, -1<<31 - 1, -1 << 31, -maxNum, -1001, -1000, -22, -2, -1,
	0, 1, 2, 5, 10, 11, 12, 21, 22, 23, 30, 100, 999, 1000, 1001, 1002, 65536, maxNum - 1, maxNum, 1 << 31, 1<<31 + 1,
	1<<32 - 1, 1 << 32, 1<<32 + 5, 1<<32 + 22, 2*maxNum + 5, 1 << 62, math.MaxInt - 1, math.MaxInt,
}

// segment is what a table tells of one.
type segment struct {
	state, stamp, live int
}

// device is a geometry of so many segments of so many sectors.
func device(t *testing.T, segs, length int) *geom.Geom {
	t.Helper()
	g, e := geom.New(api.Config{Blocks: 20, Segs: segs, Len: length})
	if e != api.OK {
		t.Fatalf("geom.New of %d segments of %d: got error %d", segs, length, e)
	}
	return g
}

// of is a table of these segments, and none else.
func of(t *testing.T, g *geom.Geom, l ...segment) *usage.Table {
	t.Helper()
	uses := make([]api.Use, len(l))
	for s, x := range l {
		uses[s] = api.Use{State: x.state, Stamp: x.stamp}
	}
	u := usage.New(g, uses...)
	if u == nil {
		t.Fatalf("usage.New of %v: got nil", uses)
	}
	for s, x := range l {
		u.Add(g.Seg(s), x.live)
	}
	return u
}

// eight is a table of eight segments of 24 sectors: these, and behind them Free
// ones.
func eight(t *testing.T, l ...segment) (*geom.Geom, *usage.Table) {
	t.Helper()
	g := device(t, 8, 24)
	all := make([]segment, 8)
	copy(all, l)
	return g, of(t, g, all...)
}

// all is so many segments, each like that.
func all(n int, x segment) []segment {
	return slices.Repeat([]segment{x}, n)
}

// score is what the document asks of one, found by halves, without a division.
func score(live, age, room int) int {
	if live < 0 || live > room || room < 1 || room > 1000 || age < 0 || age > maxNum {
		return 0
	}
	low, high := 0, maxNum
	for low < high {
		half := low + (high-low+1)/2
		if half*(room+live) <= (room-live)*age {
			low = half
		} else {
			high = half - 1
		}
	}
	return low
}

// better is what the document asks of two rows.
func better(a, b [3]int) bool {
	return a[0] > b[0] || a[0] == b[0] && a[1] < b[1] || a[0] == b[0] && a[1] == b[1] && a[2] < b[2]
}

// ageOf is how long ago a Stamp was, by steps that never leave an int.
func ageOf(now, stamp int) int {
	switch {
	case now <= stamp:
		return 0
	case now-stamp > maxNum:
		return maxNum
	}
	return now - stamp
}

// rows is those of the candidates among these segments.
func rows(l []segment, length, now int) [][3]int {
	var out [][3]int
	for s, x := range l {
		if x.state == 2 && x.live > 0 && 2*x.live <= length-2 {
			out = append(out, [3]int{score(x.live, ageOf(now, x.stamp), length-2), x.live, s})
		}
	}
	return out
}

// byHand is the candidate than which none is better: each is held against each.
func byHand(l []segment, length, now int) (int, bool) {
	c := rows(l, length, now)
	for _, a := range c {
		if !slices.ContainsFunc(c, func(b [3]int) bool { return better(b, a) }) {
			return a[2], true
		}
	}
	return 0, false
}

// is fails unless a call answered that.
func is[T comparable](t *testing.T, what string, got, want T) {
	if got != want {
		t.Helper()
		t.Errorf("%s: got %v, want %v", what, got, want)
	}
}

// picks fails unless that segment is picked.
func picks(t *testing.T, what string, g *geom.Geom, u *usage.Table, now, want int) {
	if s, ok := victim.Pick(g, u, now); s != want || !ok {
		t.Helper()
		t.Errorf("%s: Pick(%d): got %d, %t, want %d, true", what, now, s, ok, want)
	}
}

// picksNone fails if a segment is picked.
func picksNone(t *testing.T, what string, g *geom.Geom, u *usage.Table, now int) {
	if s, ok := victim.Pick(g, u, now); s != 0 || ok {
		t.Helper()
		t.Errorf("%s: Pick(%d): got %d, %t, want 0, false", what, now, s, ok)
	}
}

// picksLike fails unless that is picked which is picked by hand.
func picksLike(t *testing.T, g *geom.Geom, u *usage.Table, l []segment, now int) {
	want, there := byHand(l, g.Config().Len, now)
	if s, ok := victim.Pick(g, u, now); s != want || ok != there {
		t.Helper()
		t.Errorf("of %v, with %d sectors each: Pick(%d): got %d, %t, want %d, %t", l, g.Config().Len, now, s, ok, want, there)
	}
}

// rule is numbers that follow each other by a rule, and look like any.
type rule uint32

// next is one from 0 to n - 1.
func (r *rule) next(n int) int {
	*r = *r*1664525 + 1013904223
	return int(uint32(*r)>>8) % n
}

// one is one of these.
func one[T any](r *rule, l ...T) T {
	return l[r.next(len(l))]
}

func TestP19_1ScoreExample(t *testing.T) {
	is(t, "Score(11, 30, 22)", victim.Score(11, 30, 22), 10)
}

func TestP19_1ScoreByHand(t *testing.T) {
	for _, x := range []struct{ live, age, room, want int }{
		{11, 29, 22, 9}, {11, 32, 22, 10}, {11, 33, 22, 11}, {11, 1, 22, 0}, {11, 3, 22, 1},
		{1, 1, 22, 0}, {1, 2, 22, 1}, {1, 23, 22, 21}, {5, 70, 22, 44}, {21, 42, 22, 0}, {21, 43, 22, 1},
		{0, 0, 22, 0}, {0, 1, 22, 1}, {0, 30, 22, 30}, {0, maxNum, 22, maxNum}, {22, 30, 22, 0}, {22, maxNum, 22, 0},
		{0, 7, 1, 7}, {1, 7, 1, 0}, {0, maxNum, 1, maxNum}, {1, maxNum, 1, 0}, {1, 0, 2, 0}, {1, 3, 2, 1}, {1, 5, 2, 1}, {1, 6, 2, 2},
		{0, maxNum, 1000, maxNum}, {1000, maxNum, 1000, 0}, {999, maxNum, 1000, 1074278}, {500, maxNum, 1000, 715827882}, {500, 3, 1000, 1}, {999, 1998, 1000, 0}, {999, 1999, 1000, 1},
	} {
		if got := victim.Score(x.live, x.age, x.room); got != x.want {
			t.Errorf("Score(%d, %d, %d): got %d, want %d", x.live, x.age, x.room, got, x.want)
		}
	}
}

func TestP19_1ScoreEach(t *testing.T) {
	t.Parallel()
	ages := []int{0, 1, 2, 3, 22, 23, 999, 1000, 1001, 65535, 123456789, maxNum - 1, maxNum}
	for room := 1; room <= 1000; room++ {
		for live := 0; live <= room; live++ {
			for _, age := range ages {
				got := victim.Score(live, age, room)
				if got < 0 || got*(room+live) > (room-live)*age || (got+1)*(room+live) <= (room-live)*age {
					t.Fatalf("Score(%d, %d, %d): got %d, want %d", live, age, room, got, score(live, age, room))
				}
			}
		}
	}
}

func TestP19_1ScoreEachAge(t *testing.T) {
	for _, room := range []int{1, 22, 23, 62} {
		for live := 0; live <= room; live++ {
			for age := range 300 {
				if got, want := victim.Score(live, age, room), score(live, age, room); got != want {
					t.Fatalf("Score(%d, %d, %d): got %d, want %d", live, age, room, got, want)
				}
			}
		}
	}
}

func TestP19_1ScoreOfOneWrong(t *testing.T) {
	wrong := []int{math.MinInt, math.MinInt + 1, -1 << 62, -1<<32 + 5, -1 << 32, -1 << 31, -maxNum, -1001, -23, -22, -21, -5, -2, -1}
	more := []int{1 << 31, 1<<31 + 1, 1<<32 - 1, 1 << 32, 1<<32 + 5, 1 << 62, math.MaxInt - 1, math.MaxInt}
	for _, live := range slices.Concat(wrong, more, []int{23, 24, 44, 1000}) {
		is(t, "Score with a wrong live", victim.Score(live, maxNum, 22), 0)
	}
	for _, age := range slices.Concat(wrong, more) {
		is(t, "Score with a wrong age", victim.Score(0, age, 22), 0)
		is(t, "Score with a wrong age", victim.Score(5, age, 1000), 0)
	}
	for _, room := range slices.Concat(wrong, more, []int{0, 1001, 1002, 65536, maxNum}) {
		is(t, "Score with a wrong room", victim.Score(0, maxNum, room), 0)
		is(t, "Score with a wrong room", victim.Score(1, maxNum, room), 0)
		is(t, "Score with a live as the wrong room", victim.Score(room, maxNum, room), 0)
		is(t, "Score with a live that makes up for the wrong room", victim.Score(-room, maxNum, room), 0)
	}
}

func TestP19_1ScoreEdges(t *testing.T) {
	for _, room := range []int{1, 2, 22, 62, 999, 1000} {
		is(t, "Score with a live of -1", victim.Score(-1, maxNum, room), 0)
		is(t, "Score with a live of 0", victim.Score(0, maxNum, room), maxNum)
		is(t, "Score with a live of the room", victim.Score(room, maxNum, room), 0)
		is(t, "Score with a live of one more", victim.Score(room+1, maxNum, room), 0)
		is(t, "Score with an age of -1", victim.Score(0, -1, room), 0)
		is(t, "Score with an age of 0", victim.Score(0, 0, room), 0)
		is(t, "Score with an age of MaxNum", victim.Score(0, maxNum, room), maxNum)
		is(t, "Score with an age of one more", victim.Score(0, maxNum+1, room), 0)
	}
	is(t, "Score with a room of 0", victim.Score(0, 30, 0), 0)
	is(t, "Score with a room of 1", victim.Score(0, 30, 1), 30)
	is(t, "Score with a room of 1000", victim.Score(0, 30, 1000), 30)
	is(t, "Score with a room of 1001", victim.Score(0, 30, 1001), 0)
}

func TestP19_1ScoreOfAnything(t *testing.T) {
	for _, live := range extremes {
		for _, age := range extremes {
			for _, room := range extremes {
				if got, want := victim.Score(live, age, room), score(live, age, room); got != want {
					t.Errorf("Score(%d, %d, %d): got %d, want %d", live, age, room, got, want)
				}
			}
		}
	}
}

func TestP19_1BetterByHand(t *testing.T) {
	for _, x := range []struct {
		what string
		a, b [3]int
	}{
		{"a greater score", [3]int{10, 11, 3}, [3]int{9, 11, 3}},
		{"a greater score, more live, a greater number", [3]int{10, 11, 7}, [3]int{9, 1, 0}},
		{"a greater score, far more live", [3]int{10, 100, 3}, [3]int{9, 1, 3}},
		{"less live", [3]int{10, 4, 3}, [3]int{10, 5, 3}},
		{"less live, a greater number", [3]int{10, 4, 7}, [3]int{10, 5, 0}},
		{"less number", [3]int{10, 4, 2}, [3]int{10, 4, 3}},
		{"a score above one below 0", [3]int{0, 0, 0}, [3]int{-1, 0, 0}},
		{"a live below 0", [3]int{0, -1, 9}, [3]int{0, 0, 0}},
		{"a number below 0", [3]int{0, 0, -1}, [3]int{0, 0, 0}},
		{"the greatest score above the least", [3]int{math.MaxInt, 0, 0}, [3]int{math.MinInt, 0, 0}},
		{"the least live below the greatest", [3]int{0, math.MinInt, 0}, [3]int{0, math.MaxInt, 0}},
		{"the least number below the greatest", [3]int{0, 0, math.MinInt}, [3]int{0, 0, math.MaxInt}},
		{"the least live below 0", [3]int{0, math.MinInt, 0}, [3]int{0, 0, 0}},
		{"the least number below 1", [3]int{0, 0, math.MinInt}, [3]int{0, 0, 1}},
		{"a score above the least", [3]int{math.MinInt + 1, 0, 0}, [3]int{math.MinInt, 0, 0}},
	} {
		is(t, x.what, victim.Better(x.a, x.b), true)
		is(t, x.what+", the other way", victim.Better(x.b, x.a), false)
		is(t, x.what+", the first one with itself", victim.Better(x.a, x.a), false)
		is(t, x.what+", the other one with itself", victim.Better(x.b, x.b), false)
	}
}

func TestP19_1BetterEachPair(t *testing.T) {
	t.Parallel()
	some := []int{math.MinInt, math.MinInt + 1, -1 << 32, -1, 0, 1, 1 << 32, math.MaxInt - 1, math.MaxInt}
	var l [][3]int
	for _, score := range some {
		for _, live := range some {
			for _, number := range some {
				l = append(l, [3]int{score, live, number})
			}
		}
	}
	for _, a := range l {
		for _, b := range l {
			if got, want := victim.Better(a, b), better(a, b); got != want {
				t.Fatalf("Better(%v, %v): got %t, want %t", a, b, got, want)
			}
		}
	}
}

func TestP19_1BetterIsAnOrder(t *testing.T) {
	l := [][3]int{{8, 9, 9}, {7, -3, 4}, {7, 2, 0}, {7, 2, 1}, {7, 2, 8}, {7, 3, -1}, {7, 3, 0}, {0, 0, 0}, {-2, -9, -9}}
	for i, a := range l {
		for k, b := range l {
			is(t, "Better of an earlier one and a later one", victim.Better(a, b), i < k)
		}
	}
}

func TestP19_2OnlyOne(t *testing.T) {
	for n := 24; n <= 64; n++ {
		g := device(t, 8, n)
		half := (n - 2) / 2
		for _, live := range []int{0, 1, 2, half - 1, half, half + 1, half + 2, n - 2, n - 1, n, maxNum} {
			for state := range 3 {
				for at := range 8 {
					l := make([]segment, 8)
					l[at] = segment{state, 10, live}
					u := of(t, g, l...)
					for _, now := range []int{9, 10, 100} {
						if state == 2 && 1 <= live && live <= half {
							picks(t, "one candidate", g, u, now, at)
						} else {
							picksNone(t, "no candidate", g, u, now)
						}
					}
				}
			}
		}
	}
}

func TestP19_2EachPlaceAmongOthers(t *testing.T) {
	for _, segs := range []int{8, 9, 17, 32} {
		g := device(t, segs, 25)
		for at := range segs {
			l := make([]segment, segs)
			for s := range l {
				// Each of these would be the best one, were it a candidate.
				l[s] = []segment{{0, 1, 1}, {1, 1, 1}, {2, 1, 0}, {2, 1, 12}, {2, 1, 23}, {0, 0, 0}, {1, 0, 0}}[(s+at)%7]
			}
			l[at] = segment{2, 99, 11}
			picks(t, "among others", g, of(t, g, l...), 100, at)
			l[at].live = 12
			picksNone(t, "among others", g, of(t, g, l...), 100)
		}
	}
}

func TestP19_2AllAlike(t *testing.T) {
	for _, segs := range []int{8, 31, 32} {
		g := device(t, segs, 24)
		l := all(segs, segment{2, 50, 7})
		for _, now := range extremes {
			picks(t, "all alike", g, of(t, g, l...), now, 0)
		}
		for first := range segs {
			picks(t, "all alike from there on", g, of(t, g, l...), 90, first)
			l[first].live = 8
		}
		picks(t, "all alike again", g, of(t, g, l...), 90, 0)
	}
}

func TestP19_2EachPlaceTheBest(t *testing.T) {
	g := device(t, 32, 64)
	for at := range 32 {
		l := all(32, segment{2, 50, 20})
		l[at].stamp = 10
		picks(t, "the eldest one", g, of(t, g, l...), 90, at)
		l[at] = segment{2, 50, 19}
		picks(t, "the one with the least live", g, of(t, g, l...), 90, at)
		l[at] = segment{2, 10, 31}
		picks(t, "an elder one that is half full, while it is young", g, of(t, g, l...), 51, at)
	}
}

func TestP19_2ByScore(t *testing.T) {
	// At 100: 90 times 11 by 33: 30; 99 times 12 by 32: 37; 50 times 21 by 23: 45.
	g, u := eight(t, segment{2, 10, 11}, segment{2, 1, 10}, segment{2, 50, 1})
	picks(t, "more live, and elder", g, u, 100, 2)
	picks(t, "younger, and less live", g, u, 60, 1)
	picks(t, "the eldest alone has an age", g, u, 9, 1)
	picks(t, "far off", g, u, 1000, 2)
}

func TestP19_2LikeScore(t *testing.T) {
	// Age 30, live 11: 10; age 32, live 11: 10 and 2 thirds; age 16, live 5: 10
	// and 2 of 27; age 11, live 1: 10 and 1 of 23.
	l := []segment{{2, 70, 11}, {2, 68, 11}, {2, 84, 5}, {2, 89, 1}}
	for i, a := range l {
		for k, b := range l {
			g, u := eight(t, segment{}, a, segment{1, 0, 1}, b)
			want := 1
			if b.live < a.live {
				want = 3
			}
			if i != k {
				picks(t, "two of like score", g, u, 100, want)
			}
		}
	}
	g, u := eight(t, l...)
	picks(t, "four of like score", g, u, 100, 3)
	slices.Reverse(l)
	g, u = eight(t, l...)
	picks(t, "four of like score, turned round", g, u, 100, 0)
}

func TestP19_2StampAboveNow(t *testing.T) {
	// None has an age, and so a score; the live and the number tell then.
	g, u := eight(t, segment{2, 300, 2}, segment{2, 200, 1}, segment{2, 100, 1}, segment{2, maxNum, 1}, segment{2, 150, 11})
	for _, now := range []int{math.MinInt, math.MinInt + 5, -1 << 62, -1 << 32, -1<<32 + 150, -maxNum, -101, -100, -1, 0, 1, 99, 100} {
		picks(t, "all Stamps above", g, u, now, 1)
	}
	picks(t, "an age of 1 is cut to nothing", g, u, 101, 1)
	picks(t, "an age of 2 is not", g, u, 102, 2)
	picks(t, "two with an age", g, u, 250, 2)
}

func TestP19_2NowBelowNothing(t *testing.T) {
	// Less a Stamp these wrap round to far above 0.
	g, u := eight(t, segment{2, 0, 2}, segment{2, maxNum, 5}, segment{2, 7, 1}, segment{2, 0, 1})
	for _, now := range []int{math.MinInt, math.MinInt + 1, math.MinInt + 6, math.MinInt + maxNum - 1, math.MinInt + maxNum, -1, 0} {
		picks(t, "now below 0", g, u, now, 2)
	}
}

func TestP19_2AgeHeld(t *testing.T) {
	// Segment 0 has an age above MaxNum: without it being held it has no score,
	// or one that is far greater than that of segment 1.
	now := maxNum + 1000
	g, u := eight(t, segment{2, 0, 11}, segment{2, 1000, 5})
	picks(t, "held, the one with less live", g, u, now, 1)
	g, u = eight(t, segment{2, 1000, 11}, segment{2, 0, 5})
	picks(t, "held, and the best", g, u, now, 1)
	g, u = eight(t, segment{2, 700, 5}, segment{2, 0, 5}, segment{2, 999, 5}, segment{2, 1000, 5})
	picks(t, "all held", g, u, now, 0)
	picks(t, "all held, but the last one", g, u, now-1, 0)
	picks(t, "none held", g, u, maxNum, 1)
	picks(t, "one at its greatest", g, u, maxNum-1, 1)
	for _, now := range []int{2 * maxNum, 2*maxNum + 1, 1 << 32, 1<<32 + 1000, 1 << 62, math.MaxInt - maxNum, math.MaxInt - 1, math.MaxInt} {
		picks(t, "all held, far off", g, u, now, 0)
		g, u := eight(t, segment{2, 0, 6}, segment{2, maxNum, 5})
		picks(t, "all held, far off, by live", g, u, now, 1)
	}
}

func TestP19_2Room(t *testing.T) {
	// Of a room of 22: 21 times 30 by 23: 27; 17 times 44 by 27: 27, and 17 times
	// 45 by 27: 28. With a greater room the elder one is better both times, with a
	// lesser room neither time.
	g, u := eight(t, segment{2, 56, 5}, segment{2, 70, 1})
	picks(t, "the room of 24 sectors", g, u, 100, 1)
	g, u = eight(t, segment{2, 55, 5}, segment{2, 70, 1})
	picks(t, "the room of 24 sectors, one elder", g, u, 100, 0)
}

func TestP19_2EachTwo(t *testing.T) {
	t.Parallel()
	var each []segment
	for state := range 3 {
		for _, stamp := range []int{0, 1, 40, 97, 100, 101, maxNum} {
			for _, live := range []int{0, 1, 2, 5, 10, 11, 12} {
				each = append(each, segment{state, stamp, live})
			}
		}
	}
	g := device(t, 8, 24)
	for i, a := range each {
		for k, b := range each {
			l := make([]segment, 8)
			l[i%4], l[4+k%4] = a, b
			u := of(t, g, l...)
			for _, now := range []int{math.MinInt, -1, 0, 2, 100, 160, maxNum, maxNum + 1, 2 * maxNum, math.MaxInt} {
				picksLike(t, g, u, l, now)
			}
		}
	}
}

// anyOf is a table's segments by a rule, and a time that most of their Stamps are
// near.
func anyOf(r *rule, segs, length int) (l []segment, now int) {
	half := (length - 2) / 2
	now = one(r, 0, 1, 5, 100, 3000, maxNum/2, maxNum-3, maxNum, maxNum+7, 2*maxNum, -1, math.MinInt, math.MaxInt, r.next(500))
	wide := one(r, 1, 3, 30, 400, 4000)
	worth := one(r, 1, 2, half, half, half)
	for range segs {
		x := segment{one(r, 2, 2, 2, 2, 0, 1), 0, 1 + r.next(worth)}
		if r.next(8) == 0 {
			x.live = one(r, 0, half+1, half, length, maxNum)
		}
		x.stamp = min(max(now, 0), maxNum) - r.next(wide) + r.next(1+wide/8)
		if r.next(10) == 0 {
			x.stamp = r.next(maxNum)
		}
		x.stamp = min(max(x.stamp, 0), maxNum)
		l = append(l, x)
	}
	return l, now
}

func TestP19_2ByRule(t *testing.T) {
	t.Parallel()
	r := rule(19)
	for range 30000 {
		segs, length := 8+r.next(25), 24+r.next(41)
		g := device(t, segs, length)
		l, now := anyOf(&r, segs, length)
		u := of(t, g, l...)
		for _, now := range []int{now, now + 1, now - 1, r.next(maxNum)} {
			picksLike(t, g, u, l, now)
		}
		if t.Failed() {
			return
		}
	}
}

// told is what a table tells of each of its segments.
func told(u *usage.Table, segs int) []segment {
	l := make([]segment, segs)
	for s := range l {
		l[s] = segment{u.State(s), u.Stamp(s), u.Live(s)}
	}
	return l
}

func TestP19_2Life(t *testing.T) {
	t.Parallel()
	r := rule(2)
	for _, c := range []api.Config{{Blocks: 20, Segs: 8, Len: 24}, {Blocks: 64, Segs: 32, Len: 64}, {Blocks: 1, Segs: 13, Len: 31}} {
		g := device(t, c.Segs, c.Len)
		u := usage.New(g)
		for now := range 5000 {
			s := r.next(c.Segs)
			switch r.next(8) {
			case 0:
				u.Take(r.next(2) == 0)
			case 1:
				u.Grab(s)
			case 2:
				u.Seal(s)
				u.Touch(s, now)
			case 3:
				if r.next(20) == 0 {
					u.Release()
				}
			default:
				u.Add(g.Seg(s), r.next(9)-4)
			}
			picksLike(t, g, u, told(u, c.Segs), now)
		}
	}
}

func TestP19_2AsItIs(t *testing.T) {
	g, u := eight(t, segment{1, 5, 3}, segment{2, 10, 4}, segment{2, 10, 5})
	picks(t, "at first", g, u, 100, 1)
	u.Add(g.Seg(1), 1)
	picks(t, "alike", g, u, 100, 1)
	u.Add(g.Seg(1), 1)
	picks(t, "behind one more that is live", g, u, 100, 2)
	u.Touch(1, 0)
	picks(t, "behind a Touch", g, u, 20, 1)
	u.Seal(0)
	picks(t, "behind a Seal", g, u, 100, 0)
	u.Add(g.Seg(0), -3)
	picks(t, "behind the last one that was live", g, u, 100, 1)
	u.Release()
	u.Grab(0)
	u.Add(g.Seg(0), 1)
	picks(t, "behind a Grab", g, u, 100, 1)
	u.Add(g.Seg(1), -9)
	u.Add(g.Seg(2), 6)
	picks(t, "at Half", g, u, 100, 2)
	u.Add(g.Seg(2), 1)
	picksNone(t, "above Half", g, u, 100)
}

func TestP19_2None(t *testing.T) {
	for _, segs := range []int{8, 32} {
		g := device(t, segs, 24)
		for _, x := range []segment{{0, 1, 0}, {0, 1, 5}, {1, 1, 0}, {1, 1, 5}, {2, 1, 0}, {2, 1, 12}, {2, 1, 22}, {2, 1, 24}, {2, 1, maxNum}} {
			u := of(t, g, all(segs, x)...)
			for _, now := range extremes {
				picksNone(t, "no candidate", g, u, now)
			}
		}
		for _, now := range extremes {
			picksNone(t, "a new table", g, usage.New(g), now)
		}
	}
}

func TestP19_2Nil(t *testing.T) {
	g, u := eight(t, all(8, segment{2, 1, 1})...)
	for _, now := range extremes {
		picks(t, "neither nil", g, u, now, 0)
		picksNone(t, "a nil Geom", nil, u, now)
		picksNone(t, "a nil Table", g, nil, now)
		picksNone(t, "both nil", nil, nil, now)
		picksNone(t, "a nil Geom, and a Table with no segment", nil, new(usage.Table), now)
	}
}

func TestP19_2WithoutSegments(t *testing.T) {
	g, u := eight(t, all(8, segment{2, 1, 1})...)
	for _, now := range extremes {
		picksNone(t, "a Geom of nothing", new(geom.Geom), u, now)
		picksNone(t, "a Table of nothing", g, new(usage.Table), now)
		picksNone(t, "both of nothing", new(geom.Geom), new(usage.Table), now)
		picksNone(t, "a Geom of nothing, and no Table", new(geom.Geom), nil, now)
	}
}

func TestP19_2OtherGeom(t *testing.T) {
	// The Half and the Len are the Geom's, the segments the Table's.
	_, u := eight(t, segment{2, 1, 30}, segment{2, 60, 12}, segment{2, 40, 13}, segment{1, 0, 1})
	l := told(u, 8)
	for _, segs := range []int{8, 9, 32} {
		for n := 24; n <= 64; n++ {
			for now := range 300 {
				picksLike(t, device(t, segs, n), u, l, now)
			}
		}
	}
	wide := device(t, 20, 24)
	l = all(20, segment{2, 60, 11})
	l[19].live = 10
	picks(t, "a Table of more segments than the Geom", device(t, 8, 24), of(t, wide, l...), 100, 19)
}

func TestP19_2TurnsNothing(t *testing.T) {
	r := rule(7)
	for range 300 {
		segs, length := 8+r.next(25), 24+r.next(41)
		g := device(t, segs, length)
		l, now := anyOf(&r, segs, length)
		u := of(t, g, l...)
		first, there := victim.Pick(g, u, now)
		victim.Pick(g, u, now+1)
		again, ok := victim.Pick(g, u, now)
		is(t, "the same again", again, first)
		is(t, "the same again", ok, there)
		for s, x := range told(u, segs) {
			is(t, "a segment behind Picks", x, l[s])
		}
		is(t, "the Config behind Picks", g.Config(), api.Config{Blocks: 20, Segs: segs, Len: length})
	}
}

// noneBetter fails if a candidate is better than the one that is picked.
func noneBetter(t *testing.T, g *geom.Geom, u *usage.Table, l []segment, now int) {
	picked, ok := victim.Pick(g, u, now)
	c := rows(l, g.Config().Len, now)
	if ok != (len(c) > 0) {
		t.Fatalf("of %v: Pick(%d): got %t with %d candidates", l, now, ok, len(c))
	}
	if !ok {
		return
	}
	i := slices.IndexFunc(c, func(x [3]int) bool { return x[2] == picked })
	if i < 0 {
		t.Fatalf("of %v: Pick(%d): got %d, which is no candidate", l, now, picked)
	}
	for k, x := range c {
		if victim.Better(x, c[i]) || better(x, c[i]) {
			t.Fatalf("of %v: Pick(%d): got %v, but %v is better", l, now, c[i], x)
		}
		if k != i && !victim.Better(c[i], x) {
			t.Fatalf("of %v: Pick(%d): got %v, which is no better than %v", l, now, c[i], x)
		}
	}
}

func TestP19_3NoneIsBetter(t *testing.T) {
	t.Parallel()
	r := rule(3)
	for range 20000 {
		segs, length := 8+r.next(25), 24+r.next(41)
		g := device(t, segs, length)
		l, now := anyOf(&r, segs, length)
		noneBetter(t, g, of(t, g, l...), l, now)
	}
}

func TestP19_3Shuffled(t *testing.T) {
	t.Parallel()
	// Whatever their order, it is one of the same score and live.
	r := rule(5)
	g := device(t, 8, 24)
	for range 3000 {
		l, now := anyOf(&r, 8, 24)
		want, there := victim.Pick(g, of(t, g, l...), now)
		best := l[want]
		for range 8 {
			l = append(l[1:], l[0])
			got, ok := victim.Pick(g, of(t, g, l...), now)
			is(t, "one of them still", ok, there)
			if ok {
				is(t, "its live", l[got].live, best.live)
				is(t, "its score", score(l[got].live, ageOf(now, l[got].stamp), 22), score(best.live, ageOf(now, best.stamp), 22))
			}
			noneBetter(t, g, of(t, g, l...), l, now)
		}
	}
}
