package store_test

import (
	"math"
	"slices"
	"testing"

	"pumice/api"
	"pumice/store"
)

// key returns a key of a fingerprint that has one byte other than 0.
func key(first byte, n uint32) api.Key {
	return api.Key{Sum: api.Sum{first}, N: n}
}

func place(seg, page, pages int) api.Place {
	return api.Place{Seg: seg, Page: page, Pages: pages}
}

func chunk(k api.Key, p api.Place, refs int) api.Chunk {
	return api.Chunk{Key: k, Place: p, Refs: refs}
}

// answers checks what calls returned, in order.
func answers(t *testing.T, got []api.Errno, want ...api.Errno) {
	t.Helper()
	if !slices.Equal(got, want) {
		t.Errorf("answers are %d, not %d", got, want)
	}
}

// must checks that calls returned OK.
func must(t *testing.T, got ...api.Errno) {
	t.Helper()
	answers(t, got, make([]api.Errno, len(got))...)
}

func checkUnref(t *testing.T, s *store.Store, k api.Key, gone bool, want api.Errno) {
	t.Helper()
	if is, err := s.Unref(k); is != gone || err != want {
		t.Errorf("Unref(%v) returns %t, %d; not %t, %d", k, is, err, gone, want)
	}
}

func checkGet(t *testing.T, s *store.Store, want api.Chunk) {
	t.Helper()
	if c, there := s.Get(want.Key); c != want || !there {
		t.Errorf("Get(%v) returns %v, %t; not %v", want.Key, c, there, want)
	}
}

func checkGone(t *testing.T, s *store.Store, k api.Key) {
	t.Helper()
	if c, there := s.Get(k); c != (api.Chunk{}) || there {
		t.Errorf("Get(%v) returns %v, %t", k, c, there)
	}
}

func checkAll(t *testing.T, s *store.Store, want ...api.Chunk) {
	t.Helper()
	if l := s.All(); !slices.Equal(l, want) {
		t.Errorf("All returns %s", differ(l, want))
	}
}

func checkTwins(t *testing.T, s *store.Store, d api.Sum, want ...api.Chunk) {
	t.Helper()
	if l := s.Twins(d); !slices.Equal(l, want) {
		t.Errorf("Twins(%v) returns %s", d, differ(l, want))
	}
}

func checkLive(t *testing.T, s *store.Store, seg, pages int, want ...api.Chunk) {
	t.Helper()
	if l, n := s.Live(seg); !slices.Equal(l, want) || n != pages {
		t.Errorf("Live(%d) returns %s, with %d pages, not %d", seg, differ(l, want), n, pages)
	}
}

// checkEmpty checks that a store has no chunks.
func checkEmpty(t *testing.T, s *store.Store) {
	t.Helper()
	checkAll(t, s)
	for _, k := range nearKeys() {
		checkGone(t, s, k)
	}
	for _, d := range nearSums() {
		checkTwins(t, s, d)
	}
	for _, seg := range nearSegs() {
		checkLive(t, s, seg, 0)
	}
}

func checkLoads(t *testing.T, l ...api.Chunk) {
	t.Helper()
	if !loadable(l) {
		t.Fatalf("%v may not be loaded", l)
	}
	loaded(t, l...)
}

func checkLoadRefuses(t *testing.T, l ...api.Chunk) {
	t.Helper()
	if s, err := store.Load(l); s != nil || err != api.ErrArg {
		t.Errorf("Load of %d chunks returns %t, %d", len(l), s != nil, err)
	}
}

// spread returns n chunks with keys of their own, in no order.
func spread(n int) []api.Chunk {
	l := make([]api.Chunk, n)
	for i := range l {
		x := uint32(i) * 2654435761
		k := api.Key{Sum: api.Sum{0: byte(x >> 24), 1: byte(x >> 16), 31: byte(x >> 8)}, N: x}
		l[i] = chunk(k, place(i%7, i%64, 1+i%4), 1+i%3)
	}
	return l
}

// P13.1: New

func TestNew(t *testing.T) {
	b := pair(t)
	checkEmpty(t, b.s)
	k := key(1, 0)
	gone, err := b.unref(t, k)
	if gone {
		t.Error("a chunk that was not there is gone")
	}
	answers(t, []api.Errno{err, b.ref(t, k), b.move(t, k, place(1, 1, 1))}, api.ErrNone, api.ErrNone, api.ErrNone)
	checkEmpty(t, b.s)
}

func TestStoresAreIndependent(t *testing.T) {
	one, other := pair(t), pair(t)
	must(t, one.add(t, key(1, 0), place(1, 2, 3)))
	other.check(t, "the other")
	must(t, other.add(t, key(1, 0), place(4, 5, 6)), one.ref(t, key(1, 0)), one.move(t, key(1, 0), place(7, 8, 9)))
	other.check(t, "the other")
	one.check(t, "the one")
	one.unref(t, key(1, 0))
	one.unref(t, key(1, 0))
	other.check(t, "the other")
	one.check(t, "the one")
}

func TestStoresLoadedFromOneListAreIndependent(t *testing.T) {
	l := []api.Chunk{chunk(key(1, 0), place(1, 2, 3), 1), chunk(key(2, 0), place(1, 2, 3), 2)}
	one, other := loaded(t, l...), loaded(t, l...)
	one.unref(t, key(1, 0))
	must(t, one.ref(t, key(2, 0)), one.move(t, key(2, 0), place(9, 9, 9)), one.add(t, key(3, 0), place(0, 0, 0)))
	one.check(t, "the one")
	other.check(t, "the other")
}

// P13.1: Load

func TestLoadOfNoChunks(t *testing.T) {
	for _, l := range [][]api.Chunk{nil, {}, make([]api.Chunk, 0, 5)} {
		b := loaded(t, l...)
		checkEmpty(t, b.s)
		must(t, b.add(t, key(1, 0), place(1, 2, 3)))
		b.check(t, "behind Add")
	}
	s, err := store.Load(nil)
	if s == nil || err != api.OK {
		t.Fatalf("Load(nil) returns %v, %d", s, err)
	}
	checkEmpty(t, s)
}

func TestLoadHasExactlyTheseChunks(t *testing.T) {
	a := chunk(key(1, 0), place(3, 9, 1), 1)
	b := chunk(key(1, 5), place(0, 2, 3), 7)
	c := chunk(key(200, 0), place(3, 1, 4), math.MaxInt)
	s, err := store.Load([]api.Chunk{c, a, b})
	must(t, err)
	checkAll(t, s, a, b, c)
	checkGet(t, s, a)
	checkGet(t, s, b)
	checkGet(t, s, c)
	checkGone(t, s, key(1, 1))
	checkTwins(t, s, api.Sum{1}, a, b)
	checkTwins(t, s, api.Sum{200}, c)
	checkLive(t, s, 3, 5, c, a)
	checkLive(t, s, 0, 3, b)
}

func TestLoadInEachOrder(t *testing.T) {
	l := []api.Chunk{
		chunk(key(1, 0), place(2, 2, 1), 1),
		chunk(key(1, 1), place(2, 1, 1), 2),
		chunk(key(1, 2), place(2, 1, 1), 3),
		chunk(key(128, 0), place(2, 0, 1), 4),
	}
	for i := range 4 {
		for j := range 4 {
			for k := range 4 {
				if i == j || i == k || j == k {
					continue
				}
				b := loaded(t, l[i], l[j], l[k], l[6-i-j-k])
				checkAll(t, b.s, l...)
				checkLive(t, b.s, 2, 4, l[3], l[1], l[2], l[0])
				checkTwins(t, b.s, api.Sum{1}, l[:3]...)
			}
		}
	}
}

func TestLoadOfAllNearKeys(t *testing.T) {
	var l []api.Chunk
	for i, k := range nearKeys() {
		l = append(l, chunk(k, place(i%3, i, 1), 1+i))
	}
	checkAll(t, loaded(t, l...).s, l...)
	back := slices.Clone(l)
	slices.Reverse(back)
	checkAll(t, loaded(t, back...).s, l...)
}

func TestLoadRefusesAKeyTwice(t *testing.T) {
	for _, k := range nearKeys() {
		c := chunk(k, place(1, 2, 3), 4)
		checkLoadRefuses(t, c, c)
		checkLoadRefuses(t, c, chunk(k, place(5, 2, 3), 4))
		checkLoadRefuses(t, c, chunk(k, place(1, 5, 3), 4))
		checkLoadRefuses(t, c, chunk(k, place(1, 2, 5), 4))
		checkLoadRefuses(t, c, chunk(k, place(1, 2, 3), 5))
		checkLoadRefuses(t, c, c, c)
	}
}

func TestLoadRefusesAKeyTwiceFarApart(t *testing.T) {
	for _, n := range []int{2, 3, 10, 1000} {
		l := spread(n)
		checkLoads(t, l...)
		for _, at := range [][2]int{{0, n - 1}, {n - 1, 0}, {0, n / 2}, {n / 2, n - 1}} {
			if at[0] == at[1] {
				continue
			}
			twice := slices.Clone(l)
			twice[at[0]] = chunk(l[at[1]].Key, place(90, 91, 92), 93)
			checkLoadRefuses(t, twice...)
			// With another N, it is another key.
			twice[at[0]].Key.N ^= 1
			checkLoads(t, twice...)
		}
	}
}

func TestLoadTakesDifferentKeysOfTheSamePlace(t *testing.T) {
	for i, k := range nearKeys() {
		for _, e := range nearKeys()[:i] {
			if s, err := store.Load([]api.Chunk{chunk(k, place(1, 2, 3), 4), chunk(e, place(1, 2, 3), 4)}); s == nil || err != api.OK {
				t.Errorf("Load of %v and %v returns %v, %d", k, e, s, err)
			}
		}
	}
}

func TestLoadOfEachRefs(t *testing.T) {
	for _, refs := range []int{1, 2, 127, 128, 255, 256, math.MaxInt32, 1 << 31, 1 << 32, math.MaxInt} {
		checkLoads(t, chunk(key(1, 0), place(1, 2, 3), refs))
	}
	for _, refs := range []int{0, -1, -2, -255, -256, math.MinInt32, -1 << 32, math.MinInt + 1, math.MinInt} {
		for _, n := range []int{1, 2, 3, 100} {
			for _, at := range []int{0, n / 2, n - 1} {
				l := spread(n)
				l[at].Refs = refs
				checkLoadRefuses(t, l...)
			}
		}
	}
}

func TestLoadRefusesAKeyTwiceWithRefsTooFew(t *testing.T) {
	one, none := chunk(key(1, 0), place(1, 2, 3), 1), chunk(key(1, 0), place(1, 2, 3), 0)
	checkLoadRefuses(t, none, none)
	checkLoadRefuses(t, one, none)
	checkLoadRefuses(t, none, one)
	// Neither does a reference that is too much on one side make up for it.
	checkLoadRefuses(t, chunk(key(1, 0), place(1, 2, 3), 2), chunk(key(2, 0), place(1, 2, 3), -1))
}

func TestLoadKeepsAnyPlace(t *testing.T) {
	for _, n := range edges() {
		l := []api.Chunk{chunk(key(1, 0), place(n, 1, 1), 1), chunk(key(2, 0), place(1, n, 1), 1), chunk(key(3, 0), place(1, 1, n), 1)}
		checkAll(t, loaded(t, l...).s, l...)
	}
}

func TestLoadOfManyChunks(t *testing.T) {
	for _, n := range []int{1, 2, 40, 300} {
		b := loaded(t, spread(n)...)
		if l := b.s.All(); len(l) != n {
			t.Errorf("of %d chunks, there are %d", n, len(l))
		}
	}
}

func TestLoadedReferencesAreTakenOneByOne(t *testing.T) {
	for refs := 1; refs < 6; refs++ {
		b := loaded(t, chunk(key(1, 0), place(1, 2, 3), refs))
		for left := refs - 1; left > 0; left-- {
			checkUnref(t, b.s, key(1, 0), false, api.OK)
			checkAll(t, b.s, chunk(key(1, 0), place(1, 2, 3), left))
		}
		checkUnref(t, b.s, key(1, 0), true, api.OK)
		checkEmpty(t, b.s)
		checkUnref(t, b.s, key(1, 0), false, api.ErrNone)
	}
}

func TestLoadOfAnyChunks(t *testing.T) {
	d := dice(1)
	right := 0
	for range 3000 {
		l := make([]api.Chunk, d.roll(5))
		for i := range l {
			l[i] = chunk(d.key(), d.place(), d.roll(20))
		}
		if loadable(l) {
			right++
			checkLoads(t, l...)
		} else {
			checkLoadRefuses(t, l...)
		}
	}
	if right < 1000 || right > 2900 {
		t.Errorf("%d of 3000 lists are loaded", right)
	}
}

// P13.1: Add

func TestAdd(t *testing.T) {
	b := pair(t)
	for i, k := range nearKeys() {
		p := place(i%5, i%3, i)
		must(t, b.add(t, k, p))
		checkGet(t, b.s, chunk(k, p, 1))
	}
	b.check(t, "all added")
}

func TestAddOfAKeyThatIsPresent(t *testing.T) {
	b := loaded(t, chunk(key(1, 0), place(1, 2, 3), 4), chunk(key(1, 1), place(1, 5, 1), 1))
	for range 2 {
		for _, p := range []api.Place{place(1, 2, 3), {}, place(9, 9, 9)} {
			answers(t, []api.Errno{b.add(t, key(1, 0), p), b.add(t, key(1, 1), p)}, api.ErrThere, api.ErrThere)
			checkAll(t, b.s, chunk(key(1, 0), place(1, 2, 3), 4), chunk(key(1, 1), place(1, 5, 1), 1))
		}
	}
	must(t, b.add(t, key(1, 2), place(1, 2, 3)))
	answers(t, []api.Errno{b.add(t, key(1, 2), place(1, 2, 3))}, api.ErrThere)
	b.check(t, "behind Add")
}

func TestAddOfEachNearKeyTwice(t *testing.T) {
	b := pair(t)
	l := nearKeys()
	slices.Reverse(l)
	for i, k := range l {
		// None of those that are near is taken for this one.
		answers(t, []api.Errno{b.add(t, k, place(1, i, 1)), b.add(t, k, place(2, i, 2))}, api.OK, api.ErrThere)
	}
	b.check(t, "all added")
}

func TestAddOfAKeyThatWasRemoved(t *testing.T) {
	b := pair(t)
	must(t, b.add(t, key(1, 0), place(1, 2, 3)), b.ref(t, key(1, 0)), b.ref(t, key(1, 0)), b.move(t, key(1, 0), place(4, 5, 6)))
	for range 3 {
		b.unref(t, key(1, 0))
	}
	checkGone(t, b.s, key(1, 0))
	must(t, b.add(t, key(1, 0), place(7, 8, 9)))
	checkGet(t, b.s, chunk(key(1, 0), place(7, 8, 9), 1))
	checkLive(t, b.s, 7, 9, chunk(key(1, 0), place(7, 8, 9), 1))
	checkLive(t, b.s, 1, 0)
	checkLive(t, b.s, 4, 0)
	checkUnref(t, b.s, key(1, 0), true, api.OK)
	checkEmpty(t, b.s)
}

func TestAddOfARemovedKeyOfALoadedStore(t *testing.T) {
	b := loaded(t, chunk(key(1, 0), place(1, 2, 3), 2))
	b.unref(t, key(1, 0))
	answers(t, []api.Errno{b.add(t, key(1, 0), place(7, 8, 9))}, api.ErrThere)
	b.unref(t, key(1, 0))
	must(t, b.add(t, key(1, 0), place(7, 8, 9)))
	checkAll(t, b.s, chunk(key(1, 0), place(7, 8, 9), 1))
}

func TestAddOfAnyPlace(t *testing.T) {
	b := pair(t)
	for i, n := range edges() {
		must(t, b.add(t, key(1, uint32(i)), place(n, 1, 1)), b.add(t, key(2, uint32(i)), place(1, n, 1)), b.add(t, key(3, uint32(i)), place(1, 1, n)))
	}
	b.check(t, "any places")
}

// P13.1: Ref, Unref and Move

func TestCallsForAKeyThatIsNotPresent(t *testing.T) {
	all := nearKeys()
	for i, k := range all {
		// All the others are there.
		var l []api.Chunk
		for j, e := range all {
			if j != i {
				l = append(l, chunk(e, place(j%4, j%5, 1), 2))
			}
		}
		s, err := store.Load(l)
		must(t, err)
		answers(t, []api.Errno{s.Ref(k), s.Move(k, place(1, 2, 3))}, api.ErrNone, api.ErrNone)
		checkUnref(t, s, k, false, api.ErrNone)
		checkGone(t, s, k)
		checkAll(t, s, l...)
	}
}

func TestCallsForEachKeyAlone(t *testing.T) {
	all := nearKeys()
	for i, k := range all {
		l := make([]api.Chunk, len(all))
		for j, e := range all {
			l[j] = chunk(e, place(j%4, j%5, 1), 2)
		}
		s, err := store.Load(l)
		must(t, err, s.Ref(k))
		l[i].Refs = 3
		checkAll(t, s, l...)
		must(t, s.Move(k, place(9, 9, 9)))
		l[i].Place = place(9, 9, 9)
		checkAll(t, s, l...)
		checkUnref(t, s, k, false, api.OK)
		checkUnref(t, s, k, false, api.OK)
		l[i].Refs = 1
		checkAll(t, s, l...)
		checkUnref(t, s, k, true, api.OK)
		checkAll(t, s, slices.Delete(l, i, i+1)...)
	}
}

func TestRefCountsEach(t *testing.T) {
	b := pair(t)
	must(t, b.add(t, key(1, 0), place(1, 2, 3)))
	for i := range 1000 {
		must(t, b.ref(t, key(1, 0)))
		checkGet(t, b.s, chunk(key(1, 0), place(1, 2, 3), i+2))
	}
	for i := range 1000 {
		checkUnref(t, b.s, key(1, 0), false, api.OK)
		checkGet(t, b.s, chunk(key(1, 0), place(1, 2, 3), 1000-i))
	}
	checkUnref(t, b.s, key(1, 0), true, api.OK)
	checkEmpty(t, b.s)
}

func TestRefsAtTheEndOfTheNumbers(t *testing.T) {
	// A reference that does not fit is counted all the same: the chunk stays, and the same ones are left without it.
	c := chunk(key(1, 0), place(1, 2, 3), math.MaxInt)
	b := loaded(t, c)
	must(t, b.s.Ref(c.Key), b.s.Ref(c.Key))
	if _, there := b.s.Get(c.Key); !there {
		t.Error("the chunk is not present")
	}
	checkUnref(t, b.s, c.Key, false, api.OK)
	checkUnref(t, b.s, c.Key, false, api.OK)
	checkAll(t, b.s, c)
}

func TestUnrefDownToZeroAndOnceMore(t *testing.T) {
	b := pair(t)
	must(t, b.add(t, key(1, 0), place(1, 2, 3)), b.add(t, key(1, 1), place(1, 5, 1)), b.ref(t, key(1, 0)))
	checkUnref(t, b.s, key(1, 0), false, api.OK)
	checkUnref(t, b.s, key(1, 0), true, api.OK)
	for range 3 {
		checkUnref(t, b.s, key(1, 0), false, api.ErrNone)
		answers(t, []api.Errno{b.s.Ref(key(1, 0)), b.s.Move(key(1, 0), place(1, 1, 1))}, api.ErrNone, api.ErrNone)
		checkGone(t, b.s, key(1, 0))
		checkAll(t, b.s, chunk(key(1, 1), place(1, 5, 1), 1))
		checkTwins(t, b.s, api.Sum{1}, chunk(key(1, 1), place(1, 5, 1), 1))
		checkLive(t, b.s, 1, 1, chunk(key(1, 1), place(1, 5, 1), 1))
	}
}

func TestMove(t *testing.T) {
	b := loaded(t, chunk(key(1, 0), place(1, 2, 3), 4), chunk(key(1, 1), place(1, 2, 3), 5), chunk(key(2, 0), place(6, 2, 1), 6))
	must(t, b.move(t, key(1, 0), place(6, 3, 2)))
	checkAll(t, b.s, chunk(key(1, 0), place(6, 3, 2), 4), chunk(key(1, 1), place(1, 2, 3), 5), chunk(key(2, 0), place(6, 2, 1), 6))
	checkLive(t, b.s, 1, 3, chunk(key(1, 1), place(1, 2, 3), 5))
	checkLive(t, b.s, 6, 3, chunk(key(2, 0), place(6, 2, 1), 6), chunk(key(1, 0), place(6, 3, 2), 4))
	// To where it is, and back.
	must(t, b.move(t, key(1, 0), place(6, 3, 2)))
	b.check(t, "moved to where it is")
	must(t, b.move(t, key(1, 0), place(1, 2, 3)))
	checkLive(t, b.s, 1, 6, chunk(key(1, 0), place(1, 2, 3), 4), chunk(key(1, 1), place(1, 2, 3), 5))
}

func TestMoveToAnyPlace(t *testing.T) {
	b := loaded(t, chunk(key(1, 0), place(1, 2, 3), 4), chunk(key(2, 0), place(1, 2, 3), 1))
	for _, n := range edges() {
		for _, p := range []api.Place{place(n, 2, 3), place(1, n, 3), place(1, 2, n), place(n, n, n)} {
			must(t, b.move(t, key(1, 0), p))
			checkGet(t, b.s, chunk(key(1, 0), p, 4))
			b.check(t, "moved")
		}
	}
}

func TestMoveBetweenReferences(t *testing.T) {
	b := pair(t)
	must(t, b.add(t, key(1, 0), place(1, 1, 1)), b.move(t, key(1, 0), place(2, 2, 2)), b.ref(t, key(1, 0)))
	checkGet(t, b.s, chunk(key(1, 0), place(2, 2, 2), 2))
	must(t, b.move(t, key(1, 0), place(3, 3, 3)))
	b.unref(t, key(1, 0))
	checkGet(t, b.s, chunk(key(1, 0), place(3, 3, 3), 1))
	must(t, b.move(t, key(1, 0), place(4, 4, 4)))
	checkUnref(t, b.s, key(1, 0), true, api.OK)
	checkEmpty(t, b.s)
}

// P13.2

func TestGetOfAKeyThatIsNotPresent(t *testing.T) {
	b := pair(t)
	must(t, b.add(t, api.Key{Sum: api.Sum{15: 9}, N: 4}, place(1, 2, 3)))
	for _, k := range []api.Key{{}, {N: 4}, {Sum: api.Sum{15: 9}}, {Sum: api.Sum{15: 9}, N: 3}, {Sum: api.Sum{15: 9}, N: 5}, {Sum: api.Sum{15: 9}, N: 4 + 1<<31}, {Sum: api.Sum{15: 8}, N: 4}, {Sum: api.Sum{15: 9, 31: 1}, N: 4}, {Sum: api.Sum{0: 1, 15: 9}, N: 4}} {
		checkGone(t, b.s, k)
	}
	checkGet(t, b.s, chunk(api.Key{Sum: api.Sum{15: 9}, N: 4}, place(1, 2, 3), 1))
}

func TestEachByteOfTheSumCounts(t *testing.T) {
	for i := range 32 {
		b := pair(t)
		must(t, b.add(t, api.Key{}, place(1, 2, 3)))
		var d api.Sum
		d[i] = 128
		checkGone(t, b.s, api.Key{Sum: d})
		checkTwins(t, b.s, d)
		must(t, b.add(t, api.Key{Sum: d}, place(1, 1, 1)))
		checkTwins(t, b.s, api.Sum{}, chunk(api.Key{}, place(1, 2, 3), 1))
		checkTwins(t, b.s, d, chunk(api.Key{Sum: d}, place(1, 1, 1), 1))
		b.check(t, "of two")
	}
}

func TestKeysInTheirOrder(t *testing.T) {
	// Each byte counts more than all behind it, and all of them more than N.
	var l []api.Chunk
	l = append(l, chunk(api.Key{}, api.Place{}, 1))
	for i := 31; i >= 0; i-- {
		for _, x := range []byte{1, 127, 128, 255} {
			var d api.Sum
			d[i] = x
			l = append(l, chunk(api.Key{Sum: d}, api.Place{}, 1))
			for j := i + 1; j < 32; j++ {
				d[j] = 255
			}
			l = append(l, chunk(api.Key{Sum: d, N: math.MaxUint32}, api.Place{}, 1))
		}
	}
	// 77 and 257 have no factor in common.
	mixed := make([]api.Chunk, len(l))
	for i := range l {
		mixed[i] = l[i*77%len(l)]
	}
	s, err := store.Load(mixed)
	must(t, err)
	checkAll(t, s, l...)
	// All are in the same page, so that their keys order them there too.
	checkLive(t, s, 0, 0, l...)
}

func TestTwins(t *testing.T) {
	b := pair(t)
	d := api.Sum{5: 6}
	checkTwins(t, b.s, d)
	var want []api.Chunk
	for _, n := range []uint32{0, 1, 2, 127, 128, 255, 256, 1<<16 - 1, 1 << 16, 1<<31 - 1, 1 << 31, 1<<31 + 1, 4294967294, 4294967295} {
		want = append(want, chunk(api.Key{Sum: d, N: n}, place(int(n%3), int(n%5), 1), 1))
	}
	// 5 and 14 have no factor in common.
	for i := range want {
		c := want[i*5%len(want)]
		must(t, b.add(t, c.Key, c.Place))
		if i == 0 {
			checkTwins(t, b.s, d, c)
		}
	}
	checkTwins(t, b.s, d, want...)
	checkTwins(t, b.s, api.Sum{5: 7})
	checkTwins(t, b.s, api.Sum{5: 6, 6: 1})
	checkTwins(t, b.s, api.Sum{})
	b.check(t, "of many twins")
	for len(want) > 0 {
		at := len(want) / 2
		checkUnref(t, b.s, want[at].Key, true, api.OK)
		want = slices.Delete(want, at, at+1)
		checkTwins(t, b.s, d, want...)
	}
}

func TestTwinsTellsRefsAndPlaces(t *testing.T) {
	b := loaded(t, chunk(key(1, 7), place(1, 2, 3), 4), chunk(key(1, 5), place(5, 6, 7), 8), chunk(key(2, 6), place(1, 2, 3), 1))
	must(t, b.ref(t, key(1, 5)), b.move(t, key(1, 7), place(9, 9, 9)))
	checkTwins(t, b.s, api.Sum{1}, chunk(key(1, 5), place(5, 6, 7), 9), chunk(key(1, 7), place(9, 9, 9), 4))
}

func TestLive(t *testing.T) {
	a := chunk(key(9, 0), place(1, 1, 2), 1)
	b := chunk(key(5, 0), place(1, 3, 1), 1)
	c := chunk(key(7, 0), place(1, 4, 3), 1)
	d := chunk(key(6, 0), place(2, 2, 4), 1)
	s := loaded(t, c, d, b, a).s
	checkLive(t, s, 1, 6, a, b, c)
	checkLive(t, s, 2, 4, d)
	for _, seg := range []int{-2, -1, 0, 3, 257, 258, 1 << 32, 1<<32 + 1, math.MinInt + 1, math.MinInt + 2} {
		checkLive(t, s, seg, 0)
	}
}

func TestLiveOfPagesInTheirOrder(t *testing.T) {
	// The keys are in the other order.
	var l []api.Chunk
	for i, page := range []int{math.MinInt, math.MinInt + 1, math.MinInt32, -1, 0, 1, 2, 10, 63, 64, 255, 256, math.MaxInt32, math.MaxInt - 1, math.MaxInt} {
		l = append(l, chunk(key(byte(100-i), 0), place(3, page, 1), 1))
	}
	back := slices.Clone(l)
	slices.Reverse(back)
	checkLive(t, loaded(t, back...).s, 3, len(l), l...)
	checkAll(t, loaded(t, l...).s, back...)
}

func TestLiveOfChunksWithTheSamePage(t *testing.T) {
	var l []api.Chunk
	for page := range 3 {
		for i, k := range nearKeys() {
			if i%3 == page {
				// Neither the number of pages nor that of references counts for the order.
				l = append(l, chunk(k, place(4, page, i%7), 200-i))
			}
		}
	}
	pages := 0
	for _, c := range l {
		pages += c.Place.Pages
	}
	back := slices.Clone(l)
	slices.Reverse(back)
	checkLive(t, loaded(t, back...).s, 4, pages, l...)
}

func TestLiveOfANegativeSegment(t *testing.T) {
	s := loaded(t, chunk(key(1, 0), place(-1, 2, 3), 1), chunk(key(2, 0), place(1, 2, 4), 1), chunk(key(3, 0), place(math.MinInt, 2, 5), 1)).s
	checkLive(t, s, -1, 3, chunk(key(1, 0), place(-1, 2, 3), 1))
	checkLive(t, s, math.MinInt, 5, chunk(key(3, 0), place(math.MinInt, 2, 5), 1))
	checkLive(t, s, -2, 0)
	checkLive(t, s, 0, 0)
	checkLive(t, s, math.MaxInt, 0)
}

func TestSumOfPages(t *testing.T) {
	for _, c := range []struct {
		pages []int
		want  int
	}{
		{[]int{0}, 0},
		{[]int{0, 0, 5}, 5},
		{[]int{1, 2, 3, 4}, 10},
		{[]int{-1}, -1},
		{[]int{-5, 3}, -2},
		{[]int{7, -7}, 0},
		{[]int{math.MaxInt, 1}, math.MinInt},
		{[]int{math.MaxInt, math.MaxInt}, -2},
		{[]int{math.MaxInt, math.MaxInt, 2}, 0},
		{[]int{math.MaxInt, math.MaxInt, math.MaxInt}, math.MaxInt - 2},
		{[]int{math.MinInt, -1}, math.MaxInt},
		{[]int{math.MinInt, math.MinInt}, 0},
		{[]int{math.MinInt, math.MinInt, 9}, 9},
		{[]int{math.MinInt, math.MaxInt}, -1},
		{[]int{1 << 32, 1 << 32}, 1 << 33},
	} {
		b := pair(t)
		for i, n := range c.pages {
			must(t, b.add(t, key(byte(i), 0), place(2, i, n)), b.add(t, key(byte(i), 1), place(3, i, 1000)))
		}
		if l, n := b.s.Live(2); n != c.want || len(l) != len(c.pages) {
			t.Errorf("the sum of %d is %d, of %d chunks, not %d", c.pages, n, len(l), c.want)
		}
	}
}

func TestReferencesDoNotCountForPages(t *testing.T) {
	b := loaded(t, chunk(key(1, 0), place(2, 1, 3), 50))
	must(t, b.ref(t, key(1, 0)))
	checkLive(t, b.s, 2, 3, chunk(key(1, 0), place(2, 1, 3), 51))
}

func TestAllOfAnEmptyStore(t *testing.T) {
	b := pair(t)
	checkAll(t, b.s)
	must(t, b.add(t, key(1, 0), place(1, 2, 3)))
	b.unref(t, key(1, 0))
	checkAll(t, b.s)
	checkEmpty(t, b.s)
}

func TestAskingChangesNothing(t *testing.T) {
	b := loaded(t, spread(20)...)
	for range 20 {
		b.s.Get(key(1, 0))
		b.s.Get(b.r.l[3].Key)
		b.s.Twins(api.Sum{1})
		b.s.Twins(b.r.l[4].Key.Sum)
		b.s.Live(1)
		b.s.Live(-1)
		b.s.All()
		b.check(t, "asked")
	}
}

func TestNilStore(t *testing.T) {
	var s *store.Store
	for range 2 {
		for _, k := range nearKeys() {
			answers(t, []api.Errno{s.Add(k, place(1, 2, 3)), s.Ref(k), s.Move(k, place(1, 2, 3))}, api.ErrNone, api.ErrNone, api.ErrNone)
			checkUnref(t, s, k, false, api.ErrNone)
		}
		checkEmpty(t, s)
	}
}

func TestStoreThatNobodyMade(t *testing.T) {
	var s store.Store
	checkEmpty(t, &s)
	answers(t, []api.Errno{s.Ref(key(1, 0)), s.Move(key(1, 0), place(1, 2, 3))}, api.ErrNone, api.ErrNone)
	checkUnref(t, &s, key(1, 0), false, api.ErrNone)
	answers(t, []api.Errno{s.Add(key(1, 0), place(1, 2, 3)), s.Add(key(1, 0), place(4, 5, 6))}, api.OK, api.ErrThere)
	checkAll(t, &s, chunk(key(1, 0), place(1, 2, 3), 1))
}

// P13.3

func TestAChunkIsPresentWhileItIsReferenced(t *testing.T) {
	d := dice(2)
	keys := nearKeys()[:20]
	s := store.New()
	// How often each was added and referenced, less how often dereferenced.
	count := make([]int, len(keys))
	removed := 0
	for range 20000 {
		i := d.roll(len(keys))
		switch d.roll(7) {
		case 0, 1:
			if s.Add(keys[i], place(0, 0, 1)) == api.OK {
				count[i]++
			}
		case 2:
			if s.Ref(keys[i]) == api.OK {
				count[i]++
			}
		case 3:
			s.Move(keys[i], place(1, 1, 1))
		default:
			gone, err := s.Unref(keys[i])
			if err == api.OK {
				count[i]--
			}
			if gone != (err == api.OK && count[i] == 0) {
				t.Fatalf("with %d references left, Unref returns %t, %d", count[i], gone, err)
			}
			if gone {
				removed++
			}
		}
		if c, there := s.Get(keys[i]); there != (count[i] > 0) || c.Refs != count[i] {
			t.Fatalf("with %d references, Get returns %v, %t", count[i], c, there)
		}
	}
	if removed < 500 {
		t.Errorf("only %d chunks were removed", removed)
	}
}

func TestAnyCalls(t *testing.T) {
	d := dice(3)
	for range 8 {
		b := pair(t)
		for range 150 {
			b.step(t, &d)
			b.check(t, "behind a call")
		}
	}
}

func TestAnyCallsOnLoadedStores(t *testing.T) {
	d := dice(4)
	for range 60 {
		b := loaded(t, d.chunks(d.roll(40))...)
		for range 20 {
			b.step(t, &d)
			b.check(t, "behind a call")
		}
	}
}

func TestManyCalls(t *testing.T) {
	d := dice(5)
	b := pair(t)
	for i := range 20000 {
		b.step(t, &d)
		if i%400 == 0 {
			b.check(t, "behind many calls")
		}
	}
	b.check(t, "behind many calls")
}

// P13.4

func TestTheChunksAreThoseOfAllSegments(t *testing.T) {
	d := dice(6)
	for range 200 {
		b := pair(t)
		for range 40 {
			b.step(t, &d)
		}
		count := map[api.Key]int{}
		total := 0
		for _, seg := range b.r.segs() {
			l, _ := b.s.Live(seg)
			for _, c := range l {
				count[c.Key]++
				total++
				if c.Place.Seg != seg {
					t.Errorf("%v is said to be in segment %d", c, seg)
				}
				checkGet(t, b.s, c)
			}
		}
		all := b.s.All()
		for _, c := range all {
			if count[c.Key] != 1 {
				t.Errorf("%v is in %d segments", c, count[c.Key])
			}
		}
		if total != len(all) {
			t.Errorf("the segments have %d chunks, of %d", total, len(all))
		}
	}
}

// P13.5

func TestLoadOfAStoreYieldsTheSame(t *testing.T) {
	d := dice(7)
	for range 5 {
		b := pair(t)
		for range 100 {
			b.step(t, &d)
			s, err := store.Load(b.s.All())
			must(t, err)
			// From here on, the loaded one goes on in place of the other.
			b.s = s
			b.check(t, "loaded")
		}
	}
}

func TestLoadOfAStoreGoesOnTheSame(t *testing.T) {
	d := dice(8)
	b := pair(t)
	for range 60 {
		b.step(t, &d)
		again := loaded(t, b.s.All()...)
		one, two := d, d
		for range 15 {
			b.step(t, &one)
			again.step(t, &two)
		}
		again.r.check(t, "the one", b.s)
		again.check(t, "the other")
	}
}

// The chapter's example

func TestExample(t *testing.T) {
	s := store.New()
	must(t, s.Add(key(1, 0), place(1, 2, 3)), s.Ref(key(1, 0)))
	checkUnref(t, s, key(1, 0), false, api.OK)
	checkUnref(t, s, key(1, 0), true, api.OK)
	checkUnref(t, s, key(1, 0), false, api.ErrNone)
}

// Rules 2 to 6 of the document

func TestCallsThatAreRefusedChangeNothing(t *testing.T) {
	for _, b := range []both{pair(t), loaded(t, spread(1)...), loaded(t, spread(30)...)} {
		was := b.s.All()
		for _, c := range was {
			answers(t, []api.Errno{b.add(t, c.Key, place(8, 8, 8))}, api.ErrThere)
		}
		for _, k := range nearKeys() {
			if _, there := b.r.get(k); there {
				continue
			}
			_, err := b.unref(t, k)
			answers(t, []api.Errno{err, b.ref(t, k), b.move(t, k, place(8, 8, 8))}, api.ErrNone, api.ErrNone, api.ErrNone)
		}
		checkAll(t, b.s, was...)
		b.check(t, "behind refused calls")
	}
}

// guarded returns the chunks as a part of a greater array, and that array.
func guarded(l []api.Chunk) (inner, array []api.Chunk) {
	fence := chunk(api.Key{Sum: api.Sum{7: 77}, N: 77}, place(77, 77, 77), 77)
	array = slices.Concat([]api.Chunk{fence, fence}, l, slices.Repeat([]api.Chunk{fence}, 300))
	return array[2 : 2+len(l) : len(array)], array
}

// spoil changes all chunks, those behind the length too.
func spoil(l []api.Chunk) {
	l = l[:cap(l)]
	for i := range l {
		c := &l[i]
		c.Key.Sum[0] ^= 1
		c.Key.Sum[31] ^= 9
		c.Key.N += 3
		c.Place = place(c.Place.Seg+5, c.Place.Page-9, c.Place.Pages+2)
		c.Refs += 4
	}
}

func TestChunksHandedInAreNotChanged(t *testing.T) {
	d := dice(9)
	for range 300 {
		l := d.chunks(d.roll(12))
		if d.roll(2) == 0 {
			// Most of these are refused.
			l = append(l, chunk(d.key(), d.place(), d.roll(3)-1))
		}
		inner, array := guarded(l)
		was := slices.Clone(array)
		if s, err := store.Load(inner); err == api.OK {
			b := both{s, refer(l)}
			for range 20 {
				b.step(t, &d)
			}
		}
		if !slices.Equal(array, was) {
			t.Errorf("the chunks handed in were changed: %s", differ(array, was))
		}
	}
}

func TestChunksBeyondTheLengthAreNotRead(t *testing.T) {
	for _, n := range []int{0, 1, 40} {
		inner, _ := guarded(spread(n))
		b := loaded(t, inner...)
		checkGone(t, b.s, inner[: n+1 : n+1][n].Key)
		inner[: n+1 : n+1][n].Refs = 0
		checkLoads(t, inner...)
	}
}

func TestChunksHandedInAreNotKept(t *testing.T) {
	d := dice(10)
	for range 100 {
		l := d.chunks(d.roll(12))
		inner, array := guarded(l)
		s, err := store.Load(inner)
		must(t, err)
		b := both{s, refer(l)}
		spoil(array)
		b.check(t, "behind a change of what was handed in")
		for range 5 {
			b.step(t, &d)
			spoil(array)
			b.check(t, "behind a change of what was handed in")
		}
	}
}

func TestResultsAreTheCallersOwn(t *testing.T) {
	d := dice(11)
	b := loaded(t, spread(10)...)
	for range 100 {
		b.step(t, &d)
		for _, ask := range []func() []api.Chunk{
			b.s.All,
			func() []api.Chunk { return b.s.Twins(api.Sum{}) },
			func() []api.Chunk { l, _ := b.s.Live(1); return l },
		} {
			one, other := ask(), ask()
			was := slices.Clone(other)
			spoil(one)
			if !slices.Equal(other, was) {
				t.Errorf("two results share memory: %s", differ(other, was))
			}
			b.check(t, "behind a change of results")
		}
	}
}

func TestResultsStayAsTheyWere(t *testing.T) {
	l := []api.Chunk{chunk(key(1, 0), place(1, 2, 3), 1), chunk(key(1, 1), place(1, 3, 3), 2), chunk(key(1, 2), place(1, 4, 3), 3)}
	b := loaded(t, l...)
	all, twins := b.s.All(), b.s.Twins(api.Sum{1})
	live, pages := b.s.Live(1)
	b.unref(t, key(1, 0))
	must(t, b.ref(t, key(1, 1)), b.move(t, key(1, 2), place(9, 9, 9)), b.add(t, key(0, 0), place(1, 1, 1)))
	if !slices.Equal(all, l) || !slices.Equal(twins, l) || !slices.Equal(live, l) || pages != 9 {
		t.Errorf("results became %v, %v, %v", all, twins, live)
	}
}

func TestSameCallsSameResults(t *testing.T) {
	// Between the calls on one, the other gets the same.
	one, other := dice(12), dice(12)
	a, b := pair(t), pair(t)
	for range 200 {
		a.step(t, &one)
		b.check(t, "the other")
		b.step(t, &other)
		a.r.check(t, "the other", b.s)
	}
}

func TestSameOrderEachTime(t *testing.T) {
	// A map is gone through in another order each time.
	b := loaded(t, spread(200)...)
	all := b.s.All()
	live, _ := b.s.Live(3)
	for range 50 {
		checkAll(t, b.s, all...)
		if l, _ := b.s.Live(3); !slices.Equal(l, live) {
			t.Errorf("Live(3) returns %s", differ(l, live))
		}
	}
}

func TestSeveralAtATime(t *testing.T) {
	done := make(chan []api.Chunk)
	for range 8 {
		go func() {
			d := dice(13)
			s := store.New()
			for range 2000 {
				k := d.key()
				switch d.roll(4) {
				case 0, 1:
					s.Add(k, d.place())
				case 2:
					s.Unref(k)
				default:
					s.Ref(k)
				}
			}
			done <- s.All()
		}()
	}
	first := <-done
	for range 7 {
		if l := <-done; !slices.Equal(l, first) {
			t.Errorf("the same calls leave %s", differ(l, first))
		}
	}
}
