package store_test

import (
	"fmt"
	"math"
	"slices"
	"testing"

	"pumice/api"
	"pumice/store"
)

// reference is a store in a plain way: its chunks in a list, in the order in which they came.
type reference struct {
	l []api.Chunk
}

// refer returns what a store of those chunks is.
func refer(l []api.Chunk) *reference {
	return &reference{slices.Clone(l)}
}

// at returns where in the list the chunk with a key is; -1 if it is not there.
func (r *reference) at(k api.Key) int {
	for i, c := range r.l {
		if !before(c.Key, k) && !before(k, c.Key) {
			return i
		}
	}
	return -1
}

func (r *reference) add(k api.Key, p api.Place) api.Errno {
	if r.at(k) >= 0 {
		return api.ErrThere
	}
	r.l = append(r.l, api.Chunk{Key: k, Place: p, Refs: 1})
	return api.OK
}

func (r *reference) ref(k api.Key) api.Errno {
	i := r.at(k)
	if i < 0 {
		return api.ErrNone
	}
	r.l[i].Refs++
	return api.OK
}

func (r *reference) unref(k api.Key) (bool, api.Errno) {
	i := r.at(k)
	if i < 0 {
		return false, api.ErrNone
	}
	if r.l[i].Refs == 1 {
		r.l = slices.Delete(r.l, i, i+1)
		return true, api.OK
	}
	r.l[i].Refs--
	return false, api.OK
}

func (r *reference) move(k api.Key, p api.Place) api.Errno {
	i := r.at(k)
	if i < 0 {
		return api.ErrNone
	}
	r.l[i].Place = p
	return api.OK
}

func (r *reference) get(k api.Key) (api.Chunk, bool) {
	if i := r.at(k); i >= 0 {
		return r.l[i], true
	}
	return api.Chunk{}, false
}

func (r *reference) twins(d api.Sum) []api.Chunk {
	var l []api.Chunk
	for _, c := range r.l {
		if c.Key.Sum == d {
			l = append(l, c)
		}
	}
	return ordered(l, func(a, b api.Chunk) bool { return a.Key.N < b.Key.N })
}

func (r *reference) live(seg int) ([]api.Chunk, int) {
	var l []api.Chunk
	var pages uint64
	for _, c := range r.l {
		if c.Place.Seg == seg {
			l = append(l, c)
			pages += uint64(c.Place.Pages)
		}
	}
	l = ordered(l, func(a, b api.Chunk) bool {
		return a.Place.Page < b.Place.Page || a.Place.Page == b.Place.Page && before(a.Key, b.Key)
	})
	return l, int(pages)
}

func (r *reference) all() []api.Chunk {
	return ordered(r.l, func(a, b api.Chunk) bool { return before(a.Key, b.Key) })
}

// before tells whether the key a comes before the key b: byte by byte, and then by N.
func before(a, b api.Key) bool {
	for i := range 32 {
		if a.Sum[i] != b.Sum[i] {
			return a.Sum[i] < b.Sum[i]
		}
	}
	return a.N < b.N
}

// ordered returns the chunks in an order; each is one that no other one left comes before.
func ordered(l []api.Chunk, less func(a, b api.Chunk) bool) []api.Chunk {
	left := slices.Clone(l)
	var done []api.Chunk
	for len(left) > 0 {
		first := 0
		for i, c := range left {
			if less(c, left[first]) {
				first = i
			}
		}
		done = append(done, left[first])
		left = slices.Delete(left, first, first+1)
	}
	return done
}

// loadable tells whether a store may have those chunks, each held against each other one.
func loadable(l []api.Chunk) bool {
	for i, c := range l {
		if c.Refs < 1 {
			return false
		}
		for j, e := range l {
			if i != j && c.Key == e.Key {
				return false
			}
		}
	}
	return true
}

// differ tells where two lists differ first.
func differ(got, want []api.Chunk) string {
	for i := range min(len(got), len(want)) {
		if got[i] != want[i] {
			return fmt.Sprintf("%v at %d, not %v", got[i], i, want[i])
		}
	}
	return fmt.Sprintf("%d chunks, where %d are asked", len(got), len(want))
}

// check checks all that can be asked of a store.
func (r *reference) check(t *testing.T, what string, s *store.Store) {
	t.Helper()
	if l := s.All(); !slices.Equal(l, r.all()) {
		t.Fatalf("%s: All returns %s", what, differ(l, r.all()))
	}
	for _, k := range r.keys() {
		c, there := s.Get(k)
		if want, is := r.get(k); c != want || there != is {
			t.Fatalf("%s: Get(%v) returns %v, %t; not %v, %t", what, k, c, there, want, is)
		}
	}
	for _, d := range r.sums() {
		if l := s.Twins(d); !slices.Equal(l, r.twins(d)) {
			t.Fatalf("%s: Twins(%v) returns %s", what, d, differ(l, r.twins(d)))
		}
	}
	for _, seg := range r.segs() {
		l, pages := s.Live(seg)
		if want, many := r.live(seg); !slices.Equal(l, want) || pages != many {
			t.Fatalf("%s: Live(%d) returns %s, with %d pages, not %d", what, seg, differ(l, want), pages, many)
		}
	}
}

// keys, sums and segs return those of the chunks, and some more.
func (r *reference) keys() []api.Key {
	l := nearKeys()
	for _, c := range r.l {
		l = append(l, c.Key)
	}
	return l
}

func (r *reference) sums() []api.Sum {
	l := nearSums()
	for _, c := range r.l {
		if !slices.Contains(l, c.Key.Sum) {
			l = append(l, c.Key.Sum)
		}
	}
	return l
}

func (r *reference) segs() []int {
	l := nearSegs()
	for _, c := range r.l {
		if !slices.Contains(l, c.Place.Seg) {
			l = append(l, c.Place.Seg)
		}
	}
	return l
}

// nearSums returns fingerprints in their order, of which two next to each other differ in little.
func nearSums() []api.Sum {
	return []api.Sum{
		{},
		{31: 1},
		{31: 127},
		{31: 128},
		{31: 255},
		{15: 1},
		{15: 1, 31: 1},
		{0: 1},
		{0: 1, 31: 255},
		{0: 127},
		{0: 128},
		{0: 255},
		{0: 255, 31: 1},
	}
}

func nearNs() []uint32 {
	return []uint32{0, 1, 2, 255, 256, 1<<31 - 1, 1 << 31, math.MaxUint32 - 1, math.MaxUint32}
}

// nearKeys returns all keys of those fingerprints and those N, in their order.
func nearKeys() []api.Key {
	var l []api.Key
	for _, d := range nearSums() {
		for _, n := range nearNs() {
			l = append(l, api.Key{Sum: d, N: n})
		}
	}
	return l
}

// edges returns numbers that are no pages or no segments of a flash, and some that are.
func edges() []int {
	return []int{math.MinInt, math.MinInt32, -256, -2, -1, 0, 1, 2, 3, 63, 64, 255, 256, math.MaxInt32, math.MaxInt}
}

func nearSegs() []int {
	return edges()
}

// both is a store, and the reference that goes with it.
type both struct {
	s *store.Store
	r *reference
}

// pair returns a new store.
func pair(t *testing.T) both {
	t.Helper()
	s := store.New()
	if s == nil {
		t.Fatal("New returns nil")
	}
	b := both{s, refer(nil)}
	b.check(t, "New")
	return b
}

// loaded returns a store of those chunks.
func loaded(t *testing.T, l ...api.Chunk) both {
	t.Helper()
	s, err := store.Load(l)
	if s == nil || err != api.OK {
		t.Fatalf("Load of %d chunks returns %t, %d", len(l), s != nil, err)
	}
	b := both{s, refer(l)}
	b.check(t, "Load")
	return b
}

func (b both) check(t *testing.T, what string) {
	t.Helper()
	b.r.check(t, what, b.s)
}

// add, ref, unref and move do the same to both, and check what was answered.
func (b both) add(t *testing.T, k api.Key, p api.Place) api.Errno {
	t.Helper()
	err := b.s.Add(k, p)
	if want := b.r.add(k, p); err != want {
		t.Fatalf("Add(%v, %v) returns %d, not %d", k, p, err, want)
	}
	return err
}

func (b both) ref(t *testing.T, k api.Key) api.Errno {
	t.Helper()
	err := b.s.Ref(k)
	if want := b.r.ref(k); err != want {
		t.Fatalf("Ref(%v) returns %d, not %d", k, err, want)
	}
	return err
}

func (b both) unref(t *testing.T, k api.Key) (bool, api.Errno) {
	t.Helper()
	gone, err := b.s.Unref(k)
	if is, want := b.r.unref(k); gone != is || err != want {
		t.Fatalf("Unref(%v) returns %t, %d; not %t, %d", k, gone, err, is, want)
	}
	return gone, err
}

func (b both) move(t *testing.T, k api.Key, p api.Place) api.Errno {
	t.Helper()
	err := b.s.Move(k, p)
	if want := b.r.move(k, p); err != want {
		t.Fatalf("Move(%v, %v) returns %d, not %d", k, p, err, want)
	}
	return err
}

// dice yields numbers in no order to speak of, the same ones each time.
type dice uint32

func (d *dice) roll(n int) int {
	*d = *d*1664525 + 1013904223
	return int(*d>>16) % n
}

// key returns one of the first of the near keys, so that the same one comes again.
func (d *dice) key() api.Key {
	l := nearKeys()
	if d.roll(3) > 0 {
		return l[d.roll(12)]
	}
	return l[d.roll(len(l))]
}

// place returns a location of a few segments and pages; now and then one of any numbers.
func (d *dice) place() api.Place {
	if d.roll(8) > 0 {
		return api.Place{Seg: d.roll(4) - 1, Page: d.roll(5), Pages: d.roll(4)}
	}
	l := edges()
	return api.Place{Seg: l[d.roll(len(l))], Page: l[d.roll(len(l))], Pages: l[d.roll(len(l))]}
}

// chunks returns n chunks or fewer that may be loaded.
func (d *dice) chunks(n int) []api.Chunk {
	var l []api.Chunk
	for range n {
		c := api.Chunk{Key: d.key(), Place: d.place(), Refs: 1 + d.roll(3)}
		if refer(l).at(c.Key) < 0 {
			l = append(l, c)
		}
	}
	return l
}

// step makes a call that the dice choose.
func (b both) step(t *testing.T, d *dice) {
	t.Helper()
	k := d.key()
	switch d.roll(8) {
	case 0, 1, 2:
		b.add(t, k, d.place())
	case 3, 4:
		b.ref(t, k)
	case 5, 6:
		b.unref(t, k)
	default:
		b.move(t, k, d.place())
	}
}
