package image_test

import (
	"bytes"
	"cmp"
	"hash/crc32"
	"math"
	"slices"

	"pumice/api"
)

// What the document names.
const (
	maxQueue = 40
	maxSegs  = 256
	maxImage = 7900
	maxByte  = 255
)

// Bytes of the parts of an image.
const (
	headSize  = 18 // Seq, Page, Next, the number of Writes
	writeSize = 49 // Addr, Seq, Trim, Key
	trimSize  = 13 // Addr, Seq, Trim
	chunkSize = 40 // Key, Seg, Page, Pages, Refs
	segSize   = 13 // Kind, Seq, Wear
	sumSize   = 4
)

// valid tells whether an image is valid, as the chapters of the layers 14, 11, 13 and 18 say it.
func valid(i api.Image) bool {
	if i.Seq < 1 || i.Page < 1 || i.Page > maxByte {
		return false
	}
	return validWrites(i) && validSegs(i) && validChunks(i)
}

func validWrites(i api.Image) bool {
	if i.Next == 0 || len(i.Writes) > maxQueue {
		return false
	}
	for k, w := range i.Writes {
		if w.Seq == 0 || w.Seq >= i.Next || k > 0 && w.Seq <= i.Writes[k-1].Seq {
			return false
		}
		if w.Trim && w.Key != (api.Key{}) {
			return false
		}
		if !w.Trim && !slices.ContainsFunc(i.Chunks, func(c api.Chunk) bool { return c.Key == w.Key }) {
			return false
		}
	}
	return true
}

func validSegs(i api.Image) bool {
	if i.Opens == 0 || len(i.Segs) > maxSegs {
		return false
	}
	open := 0
	seqs := map[uint64]bool{}
	for _, s := range i.Segs {
		if s.Kind > 2 || s.Kind == 0 && s.Seq != 0 || s.Kind != 0 && (s.Seq == 0 || s.Seq >= i.Opens || seqs[s.Seq]) {
			return false
		}
		if s.Kind == 1 {
			open++
		}
		seqs[s.Seq] = s.Kind != 0
	}
	return open <= 1
}

func validChunks(i api.Image) bool {
	for k, c := range i.Chunks {
		if c.Refs < 1 || c.Refs != pointing(i.Writes, c.Key) || k > 0 && keyOrder(i.Chunks[k-1].Key, c.Key) >= 0 {
			return false
		}
		p := c.Place
		if p.Seg < 0 || p.Seg >= len(i.Segs) || i.Segs[p.Seg].Kind == 0 {
			return false
		}
		if p.Page < 1 || p.Page > maxByte || p.Pages < 1 || p.Pages > maxByte {
			return false
		}
	}
	return true
}

// pointing counts the writes without Trim that have the key k.
func pointing(l []api.Write, k api.Key) int {
	n := 0
	for _, w := range l {
		if !w.Trim && w.Key == k {
			n++
		}
	}
	return n
}

// keyOrder compares two keys, byte by byte.
func keyOrder(a, b api.Key) int {
	for i := range a.Sum {
		if a.Sum[i] != b.Sum[i] {
			return int(a.Sum[i]) - int(b.Sum[i])
		}
	}
	return cmp.Compare(a.N, b.N)
}

// body returns the bytes of an image ahead of the seal; of a number that does not fit, the lowest bytes.
func body(i api.Image) []byte {
	var b []byte
	put := func(v uint64, many int) { b = append(b, low(v, many)...) }
	key := func(k api.Key) {
		b = append(b, k.Sum[:]...)
		put(uint64(k.N), 4)
	}
	put(i.Seq, 8)
	put(uint64(i.Page), 1)
	put(i.Next, 8)
	put(uint64(len(i.Writes)), 1)
	for _, w := range i.Writes {
		put(uint64(w.Addr), 4)
		put(w.Seq, 8)
		if w.Trim {
			b = append(b, 1)
		} else {
			b = append(b, 0)
			key(w.Key)
		}
	}
	put(uint64(len(i.Chunks)), 1)
	for _, c := range i.Chunks {
		key(c.Key)
		b = append(b, byte(c.Place.Seg), byte(c.Place.Page), byte(c.Place.Pages), byte(c.Refs))
	}
	put(i.Opens, 8)
	put(uint64(len(i.Segs)), 2)
	for _, s := range i.Segs {
		b = append(b, s.Kind)
		put(s.Seq, 8)
		put(uint64(s.Wear), 4)
	}
	return b
}

// seal returns b and its checksum.
func seal(b []byte) []byte {
	return slices.Concat(b, low(uint64(crc32.ChecksumIEEE(b)), sumSize))
}

// encoded returns the bytes of a valid image.
func encoded(i api.Image) []byte {
	return seal(body(i))
}

// fitting tells whether each number of an image fits into its bytes, so that encoded has all of it.
func fitting(i api.Image) bool {
	ok := i.Page >= 0 && i.Page <= maxByte && len(i.Writes) <= maxByte && len(i.Chunks) <= maxByte && len(i.Segs) < 1<<16
	for _, w := range i.Writes {
		ok = ok && (!w.Trim || w.Key == api.Key{})
	}
	for _, c := range i.Chunks {
		for _, n := range []int{c.Place.Seg, c.Place.Page, c.Place.Pages, c.Refs} {
			ok = ok && n >= 0 && n <= maxByte
		}
	}
	return ok
}

// cursor takes numbers and bytes off the front of what is left.
type cursor struct {
	left []byte
	bad  bool
}

func (c *cursor) cut(n int) []byte {
	if n > len(c.left) {
		c.bad, c.left = true, nil
		return make([]byte, n)
	}
	b := c.left[:n]
	c.left = c.left[n:]
	return b
}

func (c *cursor) num(n int) uint64 { return value(c.cut(n)) }

func (c *cursor) key() api.Key {
	return api.Key{Sum: api.Sum(c.cut(32)), N: uint32(c.num(4))}
}

// decoded returns the image whose bytes are b; false if there is none.
func decoded(b []byte) (api.Image, bool) {
	n := len(b) - sumSize
	if n < 0 || value(b[n:]) != uint64(crc32.ChecksumIEEE(b[:n])) {
		return api.Image{}, false
	}
	c := cursor{left: b[:n]}
	i := api.Image{Seq: c.num(8), Page: int(c.num(1)), Next: c.num(8)}
	for n := c.num(1); n > 0; n-- {
		w := api.Write{Addr: uint32(c.num(4)), Seq: c.num(8)}
		switch c.num(1) {
		case 0:
			w.Key = c.key()
		case 1:
			w.Trim = true
		default:
			c.bad = true
		}
		i.Writes = append(i.Writes, w)
	}
	for n := c.num(1); n > 0; n-- {
		i.Chunks = append(i.Chunks, api.Chunk{Key: c.key(), Place: api.Place{Seg: int(c.num(1)), Page: int(c.num(1)), Pages: int(c.num(1))}, Refs: int(c.num(1))})
	}
	i.Opens = c.num(8)
	for n := c.num(2); n > 0; n-- {
		i.Segs = append(i.Segs, api.Segment{Kind: uint8(c.num(1)), Seq: c.num(8), Wear: uint32(c.num(4))})
	}
	if c.bad || len(c.left) > 0 || !valid(i) {
		return api.Image{}, false
	}
	return i, true
}

// low returns the lowest bytes of v, the least significant one first.
func low(v uint64, many int) []byte {
	var b []byte
	for range many {
		b = append(b, byte(v%256))
		v /= 256
	}
	return b
}

// value returns the number of which b are the bytes, the least significant one first.
func value(b []byte) uint64 {
	var v uint64
	for i := len(b) - 1; i >= 0; i-- {
		v = v*256 + uint64(b[i])
	}
	return v
}

// same tells whether two images are the same; an empty list is the same as a nil one.
func same(i, k api.Image) bool {
	return i.Seq == k.Seq && i.Page == k.Page && i.Next == k.Next && i.Opens == k.Opens &&
		slices.Equal(i.Writes, k.Writes) && slices.Equal(i.Chunks, k.Chunks) && slices.Equal(i.Segs, k.Segs)
}

// clone returns the same image in memory of its own.
func clone(i api.Image) api.Image {
	i.Writes, i.Chunks, i.Segs = slices.Clone(i.Writes), slices.Clone(i.Chunks), slices.Clone(i.Segs)
	return i
}

// dice yields numbers in no order to speak of, the same ones each time.
type dice uint32

func (d *dice) roll(n int) int {
	*d = *d*1664525 + 1013904223
	return int(*d>>16) % n
}

func (d *dice) bytes(n int) []byte {
	b := make([]byte, n)
	for i := range b {
		b[i] = byte(d.roll(256))
	}
	return b
}

// number returns 0, a small number, the greatest one, or any one.
func (d *dice) number() uint64 {
	switch d.roll(6) {
	case 0:
		return 0
	case 1:
		return uint64(d.roll(300))
	case 2:
		return math.MaxUint64
	}
	return value(d.bytes(8))
}

// oneByte returns a number from 1 to 255; often the least or the greatest one.
func (d *dice) oneByte() int {
	switch d.roll(4) {
	case 0:
		return 1
	case 1:
		return maxByte
	}
	return 1 + d.roll(maxByte)
}

// size returns a number up to most; often the least or the greatest one.
func (d *dice) size(most int) int {
	switch d.roll(6) {
	case 0:
		return 0
	case 1:
		return most
	case 2:
		return min(1, most)
	}
	return d.roll(most + 1)
}

// seqs returns n numbers in increasing order, and one behind them; now and then the greatest ones that may be.
func (d *dice) seqs(n int) ([]uint64, uint64) {
	var l []uint64
	next := uint64(1)
	for range n {
		switch d.roll(4) {
		case 0:
			next += uint64(d.roll(300))
		case 1:
			next += value(d.bytes(7))
		}
		l = append(l, next)
		next++
	}
	if d.roll(4) == 0 {
		next = math.MaxUint64
		if n > 0 {
			l[n-1] = next - 1
		}
	}
	return l, next
}

// segs returns the segments of a table, and its next number.
func (d *dice) segs() ([]api.Segment, uint64) {
	l := make([]api.Segment, d.size(maxSegs))
	seqs, next := d.seqs(len(l))
	open := false
	for i := range l {
		l[i] = api.Segment{Kind: uint8(d.roll(3)), Wear: uint32(d.number())}
		if open && l[i].Kind == 1 {
			l[i].Kind = 2
		}
		open = open || l[i].Kind == 1
		if l[i].Kind > 0 {
			// Any of the numbers that are left.
			k := d.roll(len(seqs))
			l[i].Seq = seqs[k]
			seqs = slices.Delete(seqs, k, k+1)
		}
	}
	return l, next
}

// key returns one of few keys, some of which differ in a byte, or in N alone.
func (d *dice) key() api.Key {
	var k api.Key
	k.Sum[d.roll(32)] = byte(d.roll(3))
	if d.roll(2) == 0 {
		k.Sum = api.Sum{}
	}
	if d.roll(3) == 0 {
		k.N = uint32(d.number())
	}
	return k
}

// image returns a valid image.
func (d *dice) image() api.Image {
	i := api.Image{Seq: max(1, d.number()), Page: d.oneByte()}
	i.Segs, i.Opens = d.segs()
	var used []int
	for seg, s := range i.Segs {
		if s.Kind > 0 {
			used = append(used, seg)
		}
	}
	seqs, next := d.seqs(d.size(maxQueue))
	i.Next = next
	for _, seq := range seqs {
		w := api.Write{Addr: uint32(d.number()), Seq: seq, Trim: len(used) == 0 || d.roll(4) == 0}
		if !w.Trim {
			w.Key = d.key()
		}
		i.Writes = append(i.Writes, w)
	}
	i.Chunks = d.chunks(i.Writes, used)
	return i
}

// chunks returns those to which the writes point, in some of the segments.
func (d *dice) chunks(writes []api.Write, segs []int) []api.Chunk {
	var l []api.Chunk
	for k, w := range writes {
		if !w.Trim && pointing(writes[:k], w.Key) == 0 {
			p := api.Place{Seg: segs[d.roll(len(segs))], Page: d.oneByte(), Pages: d.oneByte()}
			l = append(l, api.Chunk{Key: w.Key, Place: p, Refs: pointing(writes, w.Key)})
		}
	}
	slices.SortFunc(l, func(a, b api.Chunk) int { return keyOrder(a.Key, b.Key) })
	return l
}

// any returns an image that is valid, or was so until something was changed.
func (d *dice) any() api.Image {
	i := d.image()
	for range d.roll(3) {
		d.change(&i)
	}
	return i
}

// change changes a field, or takes away, adds or swaps elements.
func (d *dice) change(i *api.Image) {
	switch d.roll(8) {
	case 0:
		i.Seq = d.number()
	case 1:
		i.Page = d.roll(300) - 20
	case 2:
		i.Next = d.number()
	case 3:
		i.Opens = d.number()
	case 4, 5:
		d.changeWrites(i)
	case 6:
		d.changeChunks(i)
	case 7:
		d.changeSegs(i)
	}
}

func (d *dice) changeWrites(i *api.Image) {
	if len(i.Writes) == 0 {
		i.Writes = append(i.Writes, api.Write{Seq: d.number(), Trim: d.roll(2) == 0})
		return
	}
	k := d.roll(len(i.Writes))
	w := &i.Writes[k]
	switch d.roll(7) {
	case 0:
		w.Addr = uint32(d.number())
	case 1:
		w.Seq = d.number()
	case 2:
		w.Trim = !w.Trim
	case 3:
		w.Key = d.key()
	case 4:
		w.Trim, w.Key = !w.Trim, api.Key{}
	case 5:
		i.Writes = slices.Delete(i.Writes, k, k+1)
	case 6:
		i.Writes = append(i.Writes, api.Write{Seq: i.Next - 1, Trim: true})
	}
}

func (d *dice) changeChunks(i *api.Image) {
	if len(i.Chunks) == 0 {
		i.Chunks = append(i.Chunks, api.Chunk{Key: d.key(), Place: api.Place{Page: 1, Pages: 1}, Refs: d.roll(2)})
		return
	}
	k, other := d.roll(len(i.Chunks)), d.roll(len(i.Chunks))
	c := &i.Chunks[k]
	switch d.roll(8) {
	case 0:
		c.Key = d.key()
	case 1:
		c.Place.Seg = d.roll(maxSegs+20) - 10
	case 2:
		c.Place.Page = d.roll(300) - 20
	case 3:
		c.Place.Pages = d.roll(300) - 20
	case 4:
		c.Refs += d.roll(3) - 1
	case 5:
		i.Chunks = slices.Delete(i.Chunks, k, k+1)
	case 6:
		i.Chunks[k], i.Chunks[other] = i.Chunks[other], i.Chunks[k]
	case 7:
		i.Chunks = slices.Insert(i.Chunks, k, *c)
	}
}

func (d *dice) changeSegs(i *api.Image) {
	if len(i.Segs) == 0 {
		i.Segs = append(i.Segs, api.Segment{Kind: uint8(d.roll(4)), Seq: d.number()})
		return
	}
	k := d.roll(len(i.Segs))
	s := &i.Segs[k]
	switch d.roll(6) {
	case 0:
		s.Kind = uint8(d.roll(4))
	case 1:
		s.Kind, s.Seq = 0, 0
	case 2:
		s.Seq = d.number()
	case 3:
		s.Wear = uint32(d.number())
	case 4:
		i.Segs = i.Segs[:k]
	case 5:
		i.Segs = append(i.Segs, *s)
	}
}

// encoding returns the bytes of an image; now and then changed, cut off, with bytes behind them, or any ones, with a right sum or without.
func (d *dice) encoding() []byte {
	b := body(d.image())
	switch d.roll(8) {
	case 0:
		b[d.roll(len(b))] = byte(d.roll(256))
	case 1:
		b[d.roll(min(headSize, len(b)))]++
	case 2:
		b = b[:d.roll(len(b))]
	case 3:
		b = append(b, d.bytes(1+d.roll(5))...)
	case 4:
		b = d.bytes(d.roll(200))
	case 5:
		b = body(d.any())
	}
	s := seal(b)
	if d.roll(8) == 0 {
		s[d.roll(len(s))] ^= 1 << d.roll(8)
	}
	return bytes.Clone(s)
}
