package mount_test

import (
	"fmt"
	"slices"
	"testing"

	"keelson/api"
	"keelson/store"
)

// moment is how a device stood: what its blocks had, and the numbers of what stands.
type moment struct {
	stands                  string
	epoch, done, view, mode int
}

// moment is how a state stands, without what is pending.
func (s *state) moment() moment {
	return moment{s.stands(), s.epoch, s.done, s.view, s.mode}
}

// life is a store, and how it may be found to have stood behind a crash.
type life struct {
	*hand
	may []moment
}

// lives is the life of a store from now on.
func lives(h *hand) *life {
	return &life{h, []moment{h.moment()}}
}

// does calls the store, with power.
func (l *life) does(x step) {
	l.t.Helper()
	l.did(x, l.answers(x))
}

// did is that a call was answered.
func (l *life) did(x step, e api.Errno) {
	switch {
	case e != api.OK:
	case x.settles():
		l.may = []moment{l.moment()}
	case l.mode == api.Primary:
		l.may = append(slices.Clone(l.may), l.moment())
	}
}

// asked is how the store may be found if a call was asked for that was not answered.
func (l *life) asked(x step) []moment {
	later := l.clone()
	switch x.call {
	case mark:
		later.epoch, later.done = x.a, later.seq+1
		later.commit()
	case raise:
		later.view, later.mode = x.a, x.b
	default:
		return l.may
	}
	return append(slices.Clone(l.may), later.moment())
}

// cut calls the store, with power for so many acts; if these were too few, it is off.
func (l *life) cut(x step, acts int) {
	l.t.Helper()
	l.d.Fuse(acts)
	e := x.on(l.s)
	if l.d.Off() {
		is(l.t, x.String()+", cut", e, api.ErrOff)
		l.may = l.asked(x)
		return
	}
	l.d.Fuse(-1)
	is(l.t, x.String()+", not cut", e, l.should(x))
	l.did(x, e)
}

// found is the life behind a crash: the store stands as it may.
func (l *life) found(what string, picks ...int) *life {
	l.t.Helper()
	n, e := opens(l.t, what, l.d.Crash(picks...))
	if n == nil {
		l.t.Fatalf("%s: Open of what %v left: %d", what, picks, e)
	}
	n.shows(what)
	if !slices.Contains(l.may, n.moment()) {
		l.t.Errorf("%s: what %v left stands as it never may", what, picks)
	}
	is(l.t, what+": Mount", n.at.Mount, l.at.Mount+1)
	return lives(n)
}

// roomy makes room, if there is little: blocks that lie with few others are moved, so
// that their segments are free.
func (l *life) roomy() {
	l.t.Helper()
	if len(l.free()) > 3 {
		return
	}
	l.does(checks())
	for b := range l.c.Blocks {
		for table := range l.refs {
			ref := l.refs[table][b]
			if s, _, ok := l.g.Where(ref); ok && s != l.at.Seg && l.live(l.g, s) <= 6 {
				l.does(moves(b, ref))
			}
		}
	}
	l.does(checks())
}

// picked is a step that a rule picks, right as things stand; some of its bytes are
// often alike.
func (l *life) picked(r *rule, n int) step {
	b := r.pick(l.c.Blocks)
	count := 1 + r.pick(l.c.Blocks-b)
	if r.pick(2) == 0 {
		n %= 2
	}
	backup := l.mode == api.Backup
	switch x := r.pick(60); {
	case x < 2:
		return checks()
	case x < 9:
		if ref := l.refs[r.pick(2)][b]; ref > 0 {
			return moves(b, ref)
		}
	case x == 9 && backup:
		return raises(l.view+1+r.pick(3), api.Backup)
	case x < 16 && backup:
		return marks(l.epoch + 1)
	case x < 16:
		return syncs()
	case x < 22 && backup:
		return trims(b, count)
	case x < 22:
		return drops(b, count)
	}
	if backup {
		return writes(b, n)
	}
	return puts(b, n)
}

// patterns are picks of crashes: none, all, the first so many of what is held, all but
// one, one alone, each one torn, and some by a rule.
func patterns(r *rule, held int) [][]int {
	l := [][]int{nil, ones(held)}
	for n := range held {
		but, one, torn := ones(held), make([]int, held), ones(held)
		but[n], one[n], torn[n] = 0, 1, 2+3*r.pick(64)
		l = append(l, ones(n), but, one, torn)
	}
	for range 4 {
		l = append(l, anyhow(r, held))
	}
	return l
}

// anyhow is picks by a rule.
func anyhow(r *rule, held int) []int {
	l := make([]int, held)
	for n := range l {
		l[n] = r.pick(1000) - 500
	}
	return l
}

// script is steps as a rule picks them, each right as things stand, and how a store
// that is new may be found behind the first so many of them.
func script(t *testing.T, c api.Config, seed, steps int, primary bool) ([]step, []*life) {
	t.Helper()
	r := rule(seed)
	l := lives(made(t, c, 7))
	var all []step
	befores := []*life{l.copied()}
	for k := range steps {
		x := l.picked(&r, k)
		if k == 0 && primary {
			x = raises(2, api.Primary)
		}
		before := l.at.Seg
		l.does(x)
		all = append(all, x)
		befores = append(befores, l.copied())
		if len(l.free()) <= 3 && before != l.at.Seg {
			l.does(checks())
			all = append(all, checks())
			befores = append(befores, l.copied())
		}
	}
	return all, befores
}

// copied is a life as it is now; nothing is done with its store.
func (l *life) copied() *life {
	h := *l.hand
	h.state = l.clone()
	return &life{&h, l.may}
}

// A crash at each act of a life, in Backup and in Primary, with what is held kept, lost
// and torn: the image is that of the last Mark that was told OK, or of the one that had
// been asked for; in Primary all that was safe is there, and the first so many of what
// was done behind it.
func TestP18_4EachAct(t *testing.T) {
	for n, c := range []api.Config{{Blocks: 20, Segs: 8, Len: 24}, {Blocks: 3, Segs: 8, Len: 24}, {Blocks: 40, Segs: 9, Len: 27}} {
		for k, primary := range []bool{false, true} {
			t.Run(fmt.Sprint(c, " ", k), func(t *testing.T) {
				t.Parallel()
				steps, lives := script(t, c, 10*n+k, 90, primary)
				for acts, done := 0, false; !done && !t.Failed(); acts++ {
					done = eachAct(t, c, steps, lives, acts)
				}
			})
		}
	}
}

// eachAct is a life whose power goes behind so many acts, crashed in many ways; it
// tells whether there was power for all of it.
func eachAct(t *testing.T, c api.Config, steps []step, befores []*life, acts int) bool {
	t.Helper()
	d, _ := device(t, c, beyond)
	s, e := store.New(d, c, 7)
	is(t, "New", e, api.OK)
	d.Fuse(acts)
	k, told := 0, befores[0].may
	for k < len(steps) && !d.Off() {
		e := steps[k].on(s)
		if d.Off() {
			is(t, "a call in the midst of which the power goes", e, api.ErrOff)
			told = befores[k].asked(steps[k])
		} else {
			told = befores[k+1].may
		}
		k++
	}
	r := rule(acts)
	for _, picks := range patterns(&r, d.Held()) {
		h := hand{t: t, d: d}
		h.at.Mount = 1
		l := life{&h, told}
		l.found(fmt.Sprint("act ", acts, ", step ", k), picks...)
	}
	return !d.Off()
}

// Crash upon crash: a store that was found goes on, and is lost again, with calls
// whose power goes in their midst; so it goes many times.
func TestP18_4Again(t *testing.T) {
	t.Parallel()
	for n, c := range configs() {
		for seed := range 4 {
			r := rule(100*n + seed)
			l := lives(made(t, c, n))
			for round := range 60 {
				what := fmt.Sprint("round ", round, " of ", seed, " of ", c)
				if round == 30 {
					l.does(raises(l.view+1, api.Primary))
				}
				for k := range r.pick(40) {
					l.does(l.picked(&r, 100*round+k))
					l.roomy()
				}
				if r.pick(3) > 0 {
					l.cut(l.picked(&r, round), r.pick(8))
				}
				picks := [][]int{nil, ones(l.d.Held()), ones(r.pick(8)), anyhow(&r, l.d.Held())}[r.pick(4)]
				l = l.found(what, picks...)
				if t.Failed() {
					t.FailNow()
				}
			}
		}
	}
}

// Lives beside a store kept by hand, over many segments: behind each crash at the end
// of a call, with nothing of what is held and with all of it, the store stands just as
// by hand, and goes on from there.
func TestP18_2AgainstHand(t *testing.T) {
	t.Parallel()
	for n, c := range configs() {
		r := rule(n)
		l := lives(made(t, c, n))
		turns, last := 0, 0
		for k := range 700 {
			if k == 400 {
				l.does(raises(l.view+1, api.Primary))
			}
			l.does(l.picked(&r, k))
			l.roomy()
			what := fmt.Sprint("step ", k, " of ", c)
			switch {
			case k%40 == 39:
				l = lives(l.all(what))
			case k%40 == 19:
				l = lives(l.none(what))
			case k%7 == 0:
				l.all(what)
				l.none(what)
			}
			if l.at.Seg != last {
				turns, last = turns+1, l.at.Seg
			}
			if t.Failed() {
				t.FailNow()
			}
		}
		l.holds("at the end")
		is(t, "many turns", turns > 5, true)
	}
}

// The power gone at each act of an Open, and Open again: the same is found.
func TestP18_4PowerGone(t *testing.T) {
	t.Parallel()
	for n, c := range configs() {
		r := rule(n)
		l := lives(made(t, c, n))
		for k := range 200 {
			if k == 100 {
				l.does(raises(l.view+1, api.Primary))
			}
			l.does(l.picked(&r, k))
			l.roomy()
			if k%10 > 0 {
				continue
			}
			left := l.d.Crash(anyhow(&r, l.d.Held())...)
			whole, _ := opens(t, "with power", left.Crash())
			for acts := range 3 {
				d := left.Crash()
				d.Fuse(acts)
				gone(t, d, whole, acts)
				for _, picks := range patterns(&r, d.Held()) {
					again, e := opens(t, "again", d.Crash(picks...))
					is(t, "Open again", e, api.OK)
					is(t, "what is found again", again.moment(), whole.moment())
					again.shows("again")
					// The superblock of the Open that was cut may be there, if it was written.
					is(t, "Mount", again.at.Mount == whole.at.Mount || acts == 2 && again.at.Mount == whole.at.Mount+1, true)
				}
			}
			if t.Failed() {
				t.Fatalf("step %d of %v", k, c)
			}
		}
	}
}
