// Package codec encodes numbers and byte strings one after the other into a buffer of bounded length, and decodes them again.
package codec

import (
	"bytes"

	"pumice/api"
)

const (
	maxNum   = 8         // bytes of a number
	sizeBlob = 2         // bytes of a blob's length
	maxBlob  = 1<<16 - 1 // what fits into a blob's length
)

// Writer writes items into a room of bounded length, up to the first error.
type Writer struct {
	room int
	out  []byte
	err  api.Errno
}

// NewWriter returns an empty writer with room for so many bytes.
func NewWriter(room int) *Writer {
	// The room is not allocated ahead: it may be far greater than what is written.
	return &Writer{room: max(room, 0)}
}

// Num writes the many lowest bytes of n, the least significant one first.
func (w *Writer) Num(n uint64, many int) {
	if w == nil || w.err != api.OK {
		return
	}
	if many < 0 || many > maxNum {
		w.err = api.ErrArg
		return
	}
	if w.fits(many) {
		w.putNum(n, many)
	}
}

// Raw writes the bytes of b.
func (w *Writer) Raw(b []byte) {
	if w == nil || w.err != api.OK {
		return
	}
	if w.fits(len(b)) {
		w.putBytes(b)
	}
}

// Blob writes the length of b in two bytes, and the bytes of b.
func (w *Writer) Blob(b []byte) {
	if w == nil || w.err != api.OK {
		return
	}
	if len(b) > maxBlob {
		w.err = api.ErrLong
		return
	}
	if w.fits(sizeBlob + len(b)) {
		w.putNum(uint64(len(b)), sizeBlob)
		w.putBytes(b)
	}
}

// Out returns what was written before the first error, and that error.
func (w *Writer) Out() ([]byte, api.Errno) {
	if w == nil {
		return nil, api.OK
	}
	return bytes.Clone(w.out), w.err
}

// fits tells whether an item of so many bytes has room; it is an error if not.
func (w *Writer) fits(size int) bool {
	if size > w.room-len(w.out) {
		w.err = api.ErrLong
		return false
	}
	return true
}

// putNum writes a number that has room.
func (w *Writer) putNum(n uint64, many int) {
	for i := range many {
		w.out = append(w.out, byte(n>>(8*i)))
	}
}

// putBytes writes bytes that have room.
func (w *Writer) putBytes(b []byte) {
	for i := range len(b) {
		w.out = append(w.out, b[i])
	}
}

// Reader reads items from bytes, up to the first error.
type Reader struct {
	left []byte
	err  api.Errno
}

// NewReader returns a reader of the bytes that b has now.
func NewReader(b []byte) *Reader {
	return &Reader{left: bytes.Clone(b)}
}

// Num reads a number that was written in so many bytes.
func (r *Reader) Num(many int) uint64 {
	if r == nil || r.err != api.OK {
		return 0
	}
	if many < 0 || many > maxNum {
		r.err = api.ErrArg
		return 0
	}
	if many > len(r.left) {
		r.err = api.ErrShort
		return 0
	}
	return number(r.take(many))
}

// Raw reads the next n bytes.
func (r *Reader) Raw(n int) []byte {
	if r == nil || r.err != api.OK {
		return nil
	}
	if n < 0 {
		r.err = api.ErrArg
		return nil
	}
	if n > len(r.left) {
		r.err = api.ErrShort
		return nil
	}
	return bytes.Clone(r.take(n))
}

// Blob reads a length of at most most in two bytes, and then that many bytes.
func (r *Reader) Blob(most int) []byte {
	if r == nil || r.err != api.OK {
		return nil
	}
	size, err := blobSize(r.left, most)
	if err != api.OK {
		r.err = err
		return nil
	}
	r.take(sizeBlob)
	return bytes.Clone(r.take(size))
}

// Left returns how many bytes are left.
func (r *Reader) Left() int {
	if r == nil {
		return 0
	}
	return len(r.left)
}

// End returns the first error; if there was none, ErrTail where bytes are left.
func (r *Reader) End() api.Errno {
	if r == nil {
		return api.OK
	}
	if r.err == api.OK && len(r.left) > 0 {
		return api.ErrTail
	}
	return r.err
}

// take steps over n bytes that are there.
func (r *Reader) take(n int) []byte {
	b := r.left[:n]
	r.left = r.left[n:]
	return b
}

// number returns the number that the bytes are, the least significant one first.
func number(b []byte) uint64 {
	var n uint64
	for i := range len(b) {
		n |= uint64(b[i]) << (8 * i)
	}
	return n
}

// blobSize returns the length of the blob that b begins with, if all of it is there and it is not too long.
func blobSize(b []byte, most int) (int, api.Errno) {
	if len(b) < sizeBlob {
		return 0, api.ErrShort
	}
	size := int(number(b[:sizeBlob]))
	if size > max(most, 0) {
		return 0, api.ErrLong
	}
	if size > len(b)-sizeBlob {
		return 0, api.ErrShort
	}
	return size, api.OK
}
