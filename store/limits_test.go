package store

import (
	"testing"

	"keelson/api"
	"keelson/vdisk"
	"keelson/writer"
)

// The tests here set numbers that no calls get to: they are at the end of their bounds.

// near is a store with a block that stands and one that is pending, but for its
// numbers new.
func near(t *testing.T) *Store {
	t.Helper()
	d, e := vdisk.New(206)
	is(t, "vdisk.New", e, api.OK)
	s, e := New(d, api.Config{Blocks: 20, Segs: 8, Len: 24}, 7)
	is(t, "New", e, api.OK)
	is(t, "Write", s.Write(3, make([]byte, 64)), api.OK)
	is(t, "Mark", s.Mark(1), api.OK)
	return s
}

// from lets the log of a store go on with that LSN.
func (s *Store) from(lsn int) {
	p := s.Pos()
	p.LSN = lsn
	s.writer = writer.New(s.disk, s.geom, s.table, p)
}

// is fails unless a call answered that.
func is[T comparable](t *testing.T, what string, got, want T) {
	t.Helper()
	if got != want {
		t.Errorf("%s: got %v, want %v", what, got, want)
	}
}

// refusesAll fails unless a Checkpoint and both Raises are ErrArg, and do nothing.
func refusesAll(t *testing.T, s *Store) {
	t.Helper()
	was, at, acts, waits := s.Status(), s.Pos(), s.disk.Acts(), s.writer.Waiting()
	l, e := s.Checkpoint()
	is(t, "Checkpoint", e, api.ErrArg)
	is(t, "segments", len(l), 0)
	is(t, "Raise", s.Raise(2, api.Backup), api.ErrArg)
	is(t, "Raise", s.Raise(2, api.Primary), api.ErrArg)
	is(t, "Raise to the same view", s.Raise(1, api.Primary), api.ErrView)
	is(t, "Status", s.Status(), was)
	is(t, "Pos", s.Pos(), at)
	is(t, "Acts", s.disk.Acts(), acts)
	is(t, "Waiting", s.writer.Waiting(), waits)
}

// A Gen of MaxNum is the last one.
func TestP17_4GreatestGen(t *testing.T) {
	s := near(t)
	s.now.Gen = api.MaxNum - 1
	is(t, "Write", s.Write(4, make([]byte, 64)), api.OK)
	_, e := s.Checkpoint()
	is(t, "Checkpoint", e, api.OK)
	is(t, "Gen", s.Status().Gen, api.MaxNum)
	is(t, "Write", s.Write(5, make([]byte, 64)), api.OK)
	refusesAll(t, s)
	is(t, "Mark", s.Mark(2), api.OK)
	refusesAll(t, s)
	s.disk.Fuse(0)
	s.disk.Flush()
	_, e = s.Checkpoint()
	is(t, "Checkpoint without power", e, api.ErrOff)
	is(t, "Raise without power", s.Raise(2, api.Backup), api.ErrOff)
}

// A place of the log has an LSN of MaxNum at most, with what is emitted ahead of it.
func TestP17_4GreatestLSN(t *testing.T) {
	s := near(t)
	s.from(api.MaxNum - 1)
	for b := range 3 {
		is(t, "Write", s.Write(b, make([]byte, 64)), api.OK)
	}
	_, e := s.Checkpoint()
	is(t, "Checkpoint", e, api.OK)
	is(t, "LSN", s.Pos().LSN, api.MaxNum)
	_, e = s.Checkpoint()
	is(t, "Checkpoint of nothing", e, api.OK)
	is(t, "Write", s.Write(4, make([]byte, 64)), api.OK)
	refusesAll(t, s)
	is(t, "Mark", s.Mark(2), api.OK)
	is(t, "LSN", s.Pos().LSN, api.MaxNum+1)
	refusesAll(t, s)
}

// A Mark is of an epoch of MaxNum at most.
func TestP17_2GreatestEpoch(t *testing.T) {
	s := near(t)
	s.now.Epoch = api.MaxNum - 1
	is(t, "Mark", s.Mark(api.MaxNum), api.OK)
	is(t, "Epoch", s.Status().Epoch, api.MaxNum)
	was, acts := s.Status(), s.disk.Acts()
	is(t, "Mark of one more", s.Mark(api.MaxNum+1), api.ErrArg)
	is(t, "Status", s.Status(), was)
	is(t, "Acts", s.disk.Acts(), acts)
	is(t, "Waiting", s.writer.Waiting(), 0)
	_, e := s.Checkpoint()
	is(t, "Checkpoint", e, api.OK)
}

// A Seq above MaxNum is none that a region tells: nothing is written. A Raise forgets
// what is pending, and goes back to Done.
func TestP17_4GreatestSeq(t *testing.T) {
	s := near(t)
	s.now.Seq = api.MaxNum
	is(t, "Write", s.Write(4, make([]byte, 64)), api.OK)
	acts := s.disk.Acts()
	_, e := s.Checkpoint()
	is(t, "Checkpoint", e, api.ErrArg)
	is(t, "Acts", s.disk.Acts(), acts)
	is(t, "Raise", s.Raise(2, api.Primary), api.OK)
	is(t, "Seq", s.Status().Seq, 2)
}
