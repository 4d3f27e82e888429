package page_test

import (
	"bytes"

	"pumice/api"
)

// What the document names.
const (
	pageSize = 128
	maxBody  = 125
	maxKind  = 63
	maxParts = 64
	maxBytes = 8000 // 64 times MaxBody
)

// laid returns a framed page, part by part.
func laid(f api.Frame) []byte {
	head := int(f.Kind)
	if f.First {
		head += 64
	}
	if f.Last {
		head += 128
	}
	b := append([]byte{byte(head), byte(len(f.Data))}, f.Data...)
	for len(b) < pageSize-1 {
		b = append(b, 0)
	}
	return append(b, 90)
}

// taken returns the frame that is laid as b, byte by byte; false if there is none.
func taken(b []byte) (api.Frame, bool) {
	if len(b) != pageSize {
		return api.Frame{}, false
	}
	f := api.Frame{Kind: b[0] % 64, First: b[0]/64%2 == 1, Last: b[0]/128 == 1}
	size := int(b[1])
	for at := 2; at < pageSize-1; at++ {
		if at < 2+size {
			f.Data = append(f.Data, b[at])
		} else if b[at] != 0 {
			return api.Frame{}, false
		}
	}
	if size > maxBody || b[pageSize-1] != 90 {
		return api.Frame{}, false
	}
	return f, true
}

// divided returns the pages across which b is stored.
func divided(kind uint8, b []byte) [][]byte {
	many := (len(b) + maxBody - 1) / maxBody
	if many == 0 {
		return [][]byte{laid(api.Frame{Kind: kind, First: true, Last: true})}
	}
	var l [][]byte
	for i := range many {
		end := maxBody * (i + 1)
		if i == many-1 {
			end = len(b)
		}
		l = append(l, laid(api.Frame{Kind: kind, First: i == 0, Last: i == many-1, Data: b[maxBody*i : end]}))
	}
	return l
}

// stored is what Join returns without an error.
type stored struct {
	kind  uint8
	b     []byte
	pages int
}

// joined returns what is stored in the first pages of l; false if there is nothing.
func joined(l [][]byte) (stored, bool) {
	end := lastPage(l)
	if end < 0 || end >= maxParts {
		return stored{}, false
	}
	s := stored{pages: end + 1}
	for i, b := range l[:end+1] {
		f, ok := taken(b)
		switch {
		case !ok:
			return stored{}, false
		case i == 0 && !f.First, i > 0 && f.First:
			return stored{}, false
		case i > 0 && f.Kind != s.kind:
			return stored{}, false
		case i < end && len(f.Data) != maxBody:
			return stored{}, false
		}
		s.kind = f.Kind
		s.b = append(s.b, f.Data...)
	}
	return s, true
}

// lastPage returns the position of the first framed page with Last; -1 if there is none.
func lastPage(l [][]byte) int {
	for i, b := range l {
		if f, ok := taken(b); ok && f.Last {
			return i
		}
	}
	return -1
}

// sameFrame tells whether two frames are the same; no bytes are the same as nil ones.
func sameFrame(f, g api.Frame) bool {
	return f.Kind == g.Kind && f.First == g.First && f.Last == g.Last && bytes.Equal(f.Data, g.Data)
}

// dice yields numbers in no order to speak of, the same ones each time.
type dice uint32

func (d *dice) roll(n int) int {
	*d = *d*1664525 + 1013904223
	return int(*d>>16) % n
}

func (d *dice) bytes(n int) []byte {
	b := make([]byte, n)
	for i := range b {
		b[i] = byte(d.roll(256))
	}
	return b
}

// frame returns a frame that fits into a page; often one of no bytes, or of as many as fit.
func (d *dice) frame() api.Frame {
	size := d.roll(maxBody + 1)
	switch d.roll(4) {
	case 0:
		size = 0
	case 1:
		size = maxBody
	}
	return api.Frame{Kind: uint8(d.roll(maxKind + 1)), First: d.roll(2) == 0, Last: d.roll(2) == 0, Data: d.bytes(size)}
}

// page returns a framed page; now and then one with a byte changed, cut off, torn, or any bytes.
func (d *dice) page() []byte {
	b := laid(d.frame())
	switch d.roll(12) {
	case 0:
		b[d.roll(pageSize)] = byte(d.roll(256))
	case 1:
		b[d.roll(pageSize)]++
	case 2:
		b = b[:d.roll(pageSize)]
	case 3:
		b = torn(b, d.roll(pageSize))
	case 4:
		b = d.bytes(pageSize)
	}
	return b
}

// pages returns pages across which bytes are stored, and some pages behind; now and then with changes.
func (d *dice) pages() [][]byte {
	l := divided(uint8(d.roll(maxKind+1)), d.bytes(d.roll(900)))
	parts := len(l)
	for range d.roll(4) {
		l = append(l, d.page())
	}
	switch d.roll(6) {
	case 0:
		l[d.roll(len(l))] = d.page()
	case 1:
		l[d.roll(parts)][0] ^= 1 << d.roll(8)
	case 2:
		i, k := d.roll(len(l)), d.roll(len(l))
		l[i], l[k] = l[k], l[i]
	case 3:
		l = l[d.roll(len(l)+1):]
	}
	return l
}

// torn returns a page of which only the first n bytes were programmed.
func torn(b []byte, n int) []byte {
	return append(bytes.Clone(b[:n]), bytes.Repeat([]byte{255}, len(b)-n)...)
}
