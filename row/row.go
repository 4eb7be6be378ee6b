// Package row is numbers and bytes in a row: see the document, chapter 1.
package row

import (
	"bytes"
)

// maxSize is the greatest number of bytes that a row has.
const maxSize = 65536

// Row is bytes, and a place among them. Whatever is put, laid, got or taken
// goes on from the place. A nil Row refuses all of that.
type Row struct {
	all   []byte
	place int
}

// New makes a row of so many bytes 0, at place 0; nil unless size is 0 to 65536.
func New(size int) *Row {
	if size < 0 || size > maxSize {
		return nil
	}
	return &Row{all: make([]byte, size)}
}

// From makes a row of a copy of these bytes, at place 0; nil of more than 65536.
func From(b []byte) *Row {
	if len(b) > maxSize {
		return nil
	}
	return &Row{all: bytes.Clone(b)}
}

// Put lays numbers of that width (1, 2 or 4 bytes), the least byte first. It
// lays all of them, or answers false and lays none.
func (r *Row) Put(width int, l ...int) bool {
	if !isWidth(width) {
		return false
	}
	for _, n := range l {
		if !holds(width, n) {
			return false
		}
	}
	room, ok := r.next(width * len(l))
	for i := range room {
		room[i] = byte(l[i/width] >> (8 * (i % width)))
	}
	return ok
}

// Lay lays these bytes, or answers false and lays none, if they do not fit.
func (r *Row) Lay(b []byte) bool {
	room, ok := r.next(len(b))
	copy(room, b)
	return ok
}

// Get answers the number that the next bytes are, the least byte first; false
// unless width is 1, 2 or 4, and so many are left.
func (r *Row) Get(width int) (int, bool) {
	if !isWidth(width) {
		return 0, false
	}
	room, ok := r.next(width)
	n := 0
	for i, x := range room {
		n |= int(x) << (8 * i)
	}
	return n, ok
}

// Take answers the next n bytes; false unless n is 0 to what is left.
func (r *Row) Take(n int) ([]byte, bool) {
	room, ok := r.next(n)
	return bytes.Clone(room), ok
}

// Left is how many bytes there are from the place on.
func (r *Row) Left() int {
	if r == nil {
		return 0
	}
	return len(r.all) - r.place
}

// Bytes is all bytes, also those ahead of the place.
func (r *Row) Bytes() []byte {
	if r == nil {
		return nil
	}
	return bytes.Clone(r.all)
}

// next moves the place behind the next n bytes, and answers them as they lie in
// the row, not copied; false, and the place stays, if there are not so many.
func (r *Row) next(n int) ([]byte, bool) {
	if r == nil || n < 0 || n > r.Left() {
		return nil, false
	}
	room := r.all[r.place : r.place+n]
	r.place += n
	return room, true
}

// isWidth tells whether numbers may be so many bytes wide.
func isWidth(width int) bool {
	return width == 1 || width == 2 || width == 4
}

// holds tells whether that many bytes have room for the number. No width holds
// one below 0: however far it is shifted, its sign is left.
func holds(width, n int) bool {
	return n>>(8*width) == 0
}
