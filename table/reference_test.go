package table_test

import (
	"slices"
	"testing"

	"pumice/api"
	"pumice/table"
)

// What the document names: the most segments, the greatest Wear, and the kinds of segments.
const (
	maxSegs = 256
	maxWear = 1<<32 - 1
	free    = 0
	open    = 1
	sealed  = 2
)

// taken is a segment that is not free.
type taken struct {
	seg int
	seq uint64
}

// reference is a table in a plain way: each segment stands in one of three lists.
type reference struct {
	wear   []uint32
	free   []int
	open   []taken
	sealed []taken
	next   uint64
}

// refer returns what a table of those segments is.
func refer(l []api.Segment, next uint64) *reference {
	r := &reference{next: next}
	for i, s := range l {
		r.wear = append(r.wear, s.Wear)
		switch s.Kind {
		case free:
			r.free = append(r.free, i)
		case open:
			r.open = append(r.open, taken{i, s.Seq})
		case sealed:
			r.sealed = append(r.sealed, taken{i, s.Seq})
		}
	}
	return r
}

func (r *reference) openOne() (int, uint64, api.Errno) {
	if len(r.open) > 0 {
		return 0, 0, api.ErrThere
	}
	if len(r.free) == 0 {
		return 0, 0, api.ErrFull
	}
	best := r.free[0]
	for _, seg := range r.free {
		if r.wear[seg] < r.wear[best] || r.wear[seg] == r.wear[best] && seg < best {
			best = seg
		}
	}
	r.free = slices.DeleteFunc(r.free, func(seg int) bool { return seg == best })
	r.open = []taken{{best, r.next}}
	if r.wear[best] != maxWear {
		r.wear[best]++
	}
	r.next++
	return best, r.open[0].seq, api.OK
}

func (r *reference) seal() api.Errno {
	if len(r.open) == 0 {
		return api.ErrNone
	}
	r.sealed = append(r.sealed, r.open...)
	r.open = nil
	return api.OK
}

func (r *reference) release(seg int) api.Errno {
	if seg < 0 || seg >= len(r.wear) {
		return api.ErrArg
	}
	for i, x := range r.sealed {
		if x.seg == seg {
			r.sealed = slices.Delete(r.sealed, i, i+1)
			r.free = append(r.free, seg)
			return api.OK
		}
	}
	return api.ErrNone
}

// order returns the sealed segments; each is the one that no other one left comes before.
func (r *reference) order() []int {
	left := slices.Clone(r.sealed)
	var l []int
	for len(left) > 0 {
		first := 0
		for i, x := range left {
			if y := left[first]; x.seq < y.seq || x.seq == y.seq && x.seg < y.seg {
				first = i
			}
		}
		l = append(l, left[first].seg)
		left = slices.Delete(left, first, first+1)
	}
	return l
}

func (r *reference) rows() []api.Segment {
	l := make([]api.Segment, len(r.wear))
	for i, wear := range r.wear {
		l[i].Wear = wear
	}
	for _, x := range r.open {
		l[x.seg].Kind, l[x.seg].Seq = open, x.seq
	}
	for _, x := range r.sealed {
		l[x.seg].Kind, l[x.seg].Seq = sealed, x.seq
	}
	return l
}

// check checks all that can be asked of a table.
func (r *reference) check(t *testing.T, what string, x *table.Table) {
	t.Helper()
	var current int
	if len(r.open) > 0 {
		current = r.open[0].seg
	}
	if seg, is := x.Current(); seg != current || is != (len(r.open) > 0) {
		t.Fatalf("%s: Current returns %d, %t; open are %v", what, seg, is, r.open)
	}
	if x.Free() != len(r.free) || x.Next() != r.next {
		t.Fatalf("%s: %d are free, Next is %d; not %d, %d", what, x.Free(), x.Next(), len(r.free), r.next)
	}
	if l := x.Sealed(); !slices.Equal(l, r.order()) {
		t.Fatalf("%s: sealed are %v, not %v", what, l, r.order())
	}
	if l := x.Rows(); !slices.Equal(l, r.rows()) {
		t.Fatalf("%s: Rows returns %v, not %v", what, l, r.rows())
	}
}

// loadable tells whether a table may have those segments and that number, promise by promise.
func loadable(l []api.Segment, next uint64) bool {
	if len(l) > maxSegs || next == 0 {
		return false
	}
	many := map[uint64]int{}
	opens := 0
	for _, s := range l {
		if s.Kind > 2 || s.Kind == free && s.Seq != 0 || s.Kind != free && (s.Seq == 0 || s.Seq > next-1) {
			return false
		}
		if s.Kind == open {
			opens++
		}
		many[s.Seq]++
		if s.Kind != free && many[s.Seq] > 1 {
			return false
		}
	}
	return opens <= 1
}

// both is a table, and the reference that goes with it.
type both struct {
	x *table.Table
	r *reference
}

// pair returns a new table of n segments.
func pair(t *testing.T, n int) both {
	t.Helper()
	b := both{create(t, n), refer(make([]api.Segment, n), 1)}
	b.check(t, "New")
	return b
}

// loaded returns a table of those segments.
func loaded(t *testing.T, next uint64, l ...api.Segment) both {
	t.Helper()
	x, err := table.Load(l, next)
	if x == nil || err != api.OK {
		t.Fatalf("Load(%v, %d) returns %v, %d", l, next, x, err)
	}
	b := both{x, refer(l, next)}
	b.check(t, "Load")
	return b
}

func (b both) check(t *testing.T, what string) {
	t.Helper()
	b.r.check(t, what, b.x)
}

// open, seal and release do the same to both, and check what was answered and all that can be asked.
func (b both) open(t *testing.T) (int, uint64, api.Errno) {
	t.Helper()
	seg, seq, err := b.x.Open()
	if wantSeg, wantSeq, want := b.r.openOne(); seg != wantSeg || seq != wantSeq || err != want {
		t.Fatalf("Open returns %d, %d, %d; not %d, %d, %d", seg, seq, err, wantSeg, wantSeq, want)
	}
	b.check(t, "behind Open")
	return seg, seq, err
}

func (b both) seal(t *testing.T) api.Errno {
	t.Helper()
	err := b.x.Seal()
	if want := b.r.seal(); err != want {
		t.Fatalf("Seal returns %d, not %d", err, want)
	}
	b.check(t, "behind Seal")
	return err
}

func (b both) release(t *testing.T, seg int) api.Errno {
	t.Helper()
	err := b.x.Release(seg)
	if want := b.r.release(seg); err != want {
		t.Fatalf("Release(%d) returns %d, not %d", seg, err, want)
	}
	b.check(t, "behind Release")
	return err
}

// opens opens a segment, which must be that one with that number.
func (b both) opens(t *testing.T, seg int, seq uint64) {
	t.Helper()
	if s, n, err := b.open(t); s != seg || n != seq || err != api.OK {
		t.Fatalf("Open returns %d, %d, %d; not %d, %d, 0", s, n, err, seg, seq)
	}
}

// refuses checks that no segment is opened.
func (b both) refuses(t *testing.T, want api.Errno) {
	t.Helper()
	if s, n, err := b.open(t); s != 0 || n != 0 || err != want {
		t.Fatalf("Open returns %d, %d, %d; not 0, 0, %d", s, n, err, want)
	}
}

// fill opens and seals so many segments.
func (b both) fill(t *testing.T, n int) {
	t.Helper()
	for range n {
		if _, _, err := b.open(t); err != api.OK {
			t.Fatalf("Open returns %d", err)
		}
		must(t, b.seal(t))
	}
}

// dice yields numbers in no order to speak of, the same ones each time.
type dice uint32

func (d *dice) roll(n int) int {
	*d = *d*1664525 + 1013904223
	return int(*d>>16) % n
}

// step makes a call that the dice choose.
func (b both) step(t *testing.T, d *dice) {
	t.Helper()
	switch d.roll(5) {
	case 0, 1:
		b.open(t)
	case 2, 3:
		b.seal(t)
	default:
		b.release(t, d.roll(len(b.r.wear)+2)-1)
	}
}

// segment returns a segment of about the numbers below next; now and then one that may not be.
func (d *dice) segment(next int) api.Segment {
	s := api.Segment{Kind: uint8(d.roll(3)), Wear: uint32(d.roll(3))}
	if s.Kind != free {
		s.Seq = uint64(1 + d.roll(next))
	}
	switch d.roll(40) {
	case 0:
		s.Kind = uint8(d.roll(256))
	case 1:
		s.Seq = uint64(d.roll(3))
	}
	return s
}

// right returns n segments that may be loaded, and a next number for them.
func (d *dice) right(n int) ([]api.Segment, uint64) {
	l := make([]api.Segment, n)
	// Each Seq is used once: 3 and 7 leave out numbers, and order the segments unlike their indices.
	for i := range l {
		l[i].Wear = uint32(d.roll(4))
		if d.roll(3) > 0 {
			l[i].Kind, l[i].Seq = sealed, uint64(3+7*i%1021)
		}
	}
	if n > 0 && d.roll(2) == 0 {
		i := d.roll(n)
		l[i].Kind, l[i].Seq = open, uint64(1+d.roll(2))
	}
	return l, uint64(1030 + d.roll(3))
}
