package record_test

import (
	"bytes"
	"slices"

	"pumice/api"
)

// What the document names.
const (
	maxData = 300
	maxBody = 125
)

// Where the bytes of a kind have its data, or end if it has none.
const (
	writeHead = 51 // kind, Addr, Seq, Key, length
	trimSize  = 13 // kind, Addr, Seq
	doneSize  = 9  // kind, Seq
	moveHead  = 39 // kind, Key, length
)

// valid tells whether a note is valid, kind by kind.
func valid(n api.Note) bool {
	none := api.Note{Kind: n.Kind}
	switch n.Kind {
	case 1:
		return len(n.Data) <= maxData
	case 2:
		none.Addr, none.Seq = n.Addr, n.Seq
		return sameNote(n, none)
	case 3:
		none.Seq = n.Seq
		return sameNote(n, none)
	case 4:
		none.Key, none.Data = n.Key, n.Data
		return sameNote(n, none) && len(n.Data) >= 1 && len(n.Data) <= maxData
	}
	return false
}

// encoded returns the bytes of a valid note, kind by kind.
func encoded(n api.Note) []byte {
	switch n.Kind {
	case 1:
		return slices.Concat([]byte{1}, low(uint64(n.Addr), 4), low(n.Seq, 8), n.Key.Sum[:], low(uint64(n.Key.N), 4), low(uint64(len(n.Data)), 2), n.Data)
	case 2:
		return slices.Concat([]byte{2}, low(uint64(n.Addr), 4), low(n.Seq, 8))
	case 3:
		return slices.Concat([]byte{3}, low(n.Seq, 8))
	}
	return slices.Concat([]byte{4}, n.Key.Sum[:], low(uint64(n.Key.N), 4), low(uint64(len(n.Data)), 2), n.Data)
}

// decoded returns the note whose bytes are b, each field from its place; false if there is none.
func decoded(b []byte) (api.Note, bool) {
	if len(b) == 0 {
		return api.Note{}, false
	}
	n := api.Note{Kind: b[0]}
	switch {
	case n.Kind == 1 && len(b) >= writeHead:
		n.Addr, n.Seq = uint32(value(b[1:5])), value(b[5:13])
		n.Key = api.Key{Sum: api.Sum(b[13:45]), N: uint32(value(b[45:49]))}
		n.Data = b[writeHead:]
		return n, value(b[49:51]) == uint64(len(n.Data)) && len(n.Data) <= maxData
	case n.Kind == 2 && len(b) == trimSize:
		n.Addr, n.Seq = uint32(value(b[1:5])), value(b[5:13])
		return n, true
	case n.Kind == 3 && len(b) == doneSize:
		n.Seq = value(b[1:9])
		return n, true
	case n.Kind == 4 && len(b) > moveHead:
		n.Key = api.Key{Sum: api.Sum(b[1:33]), N: uint32(value(b[33:37]))}
		n.Data = b[moveHead:]
		return n, value(b[37:39]) == uint64(len(n.Data)) && len(n.Data) <= maxData
	}
	return api.Note{}, false
}

// low returns the lowest bytes of v, the least significant one first.
func low(v uint64, many int) []byte {
	var b []byte
	for range many {
		b = append(b, byte(v%256))
		v /= 256
	}
	return b
}

// value returns the number of which b are the bytes, the least significant one first.
func value(b []byte) uint64 {
	var v uint64
	for i := len(b) - 1; i >= 0; i-- {
		v = v*256 + uint64(b[i])
	}
	return v
}

// sameNote tells whether two notes are the same; no bytes are the same as nil ones.
func sameNote(n, m api.Note) bool {
	return n.Kind == m.Kind && n.Addr == m.Addr && n.Seq == m.Seq && n.Key.Sum == m.Key.Sum && n.Key.N == m.Key.N && bytes.Equal(n.Data, m.Data)
}

// dice yields numbers in no order to speak of, the same ones each time.
type dice uint32

func (d *dice) roll(n int) int {
	*d = *d*1664525 + 1013904223
	return int(*d>>16) % n
}

func (d *dice) bytes(n int) []byte {
	b := make([]byte, n)
	for i := range b {
		b[i] = byte(d.roll(256))
	}
	return b
}

// number returns 0, a small number, or any one.
func (d *dice) number() uint64 {
	switch d.roll(4) {
	case 0:
		return 0
	case 1:
		return uint64(d.roll(300))
	}
	return value(d.bytes(8))
}

// size returns a length that data may have; often the least or the greatest one.
func (d *dice) size() int {
	switch d.roll(4) {
	case 0:
		return 1
	case 1:
		return maxData
	}
	return 1 + d.roll(maxData)
}

// note returns a valid note.
func (d *dice) note() api.Note {
	addr, seq := uint32(d.number()), d.number()
	key := api.Key{Sum: api.Sum(d.bytes(32)), N: uint32(d.number())}
	switch d.roll(5) {
	case 0:
		return api.Note{Kind: 1, Addr: addr, Seq: seq, Key: key}
	case 1:
		return api.Note{Kind: 1, Addr: addr, Seq: seq, Key: key, Data: d.bytes(d.size())}
	case 2:
		return api.Note{Kind: 2, Addr: addr, Seq: seq}
	case 3:
		return api.Note{Kind: 3, Seq: seq}
	}
	return api.Note{Kind: 4, Key: key, Data: d.bytes(d.size())}
}

// any returns a note of which each field is set or not, whatever its kind.
func (d *dice) any() api.Note {
	n := api.Note{Kind: uint8(d.roll(6))}
	if d.roll(3) == 0 {
		n.Addr = uint32(d.number())
	}
	if d.roll(3) == 0 {
		n.Seq = d.number()
	}
	if d.roll(3) == 0 {
		n.Key.Sum[d.roll(32)] = byte(d.roll(256))
	}
	if d.roll(3) == 0 {
		n.Key.N = uint32(d.number())
	}
	if d.roll(3) > 0 {
		n.Data = d.bytes(d.roll(maxData + 10))
	}
	return n
}

// encoding returns the bytes of a valid note; now and then with a byte changed, cut off, with bytes behind it, or any bytes.
func (d *dice) encoding() []byte {
	b := encoded(d.note())
	switch d.roll(8) {
	case 0:
		b[d.roll(len(b))] = byte(d.roll(256))
	case 1:
		b[0] = byte(d.roll(6))
	case 2:
		b = b[:d.roll(len(b))]
	case 3:
		b = append(b, d.bytes(1+d.roll(5))...)
	case 4:
		b = append([]byte{byte(d.roll(6))}, d.bytes(d.roll(100))...)
	}
	return b
}
