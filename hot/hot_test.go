package hot_test

import (
	"bytes"
	"math"
	"slices"
	"testing"

	"pumice/api"
	"pumice/hot"
)

// checkAll checks which blocks are cached.
func checkAll(t *testing.T, b *both, want ...uint32) {
	t.Helper()
	if got := b.c.All(); !slices.Equal(got, want) {
		t.Errorf("All returns %s", differ(got, want))
	}
}

func checkGet(t *testing.T, b *both, addr uint32, want []byte) {
	t.Helper()
	if got, there := b.get(t, addr); !there || !bytes.Equal(got, want) {
		t.Errorf("Get(%d) returns %q, %t; not %q", addr, got, there, want)
	}
}

func checkGetNone(t *testing.T, b *both, addr uint32) {
	t.Helper()
	if got, there := b.get(t, addr); there || len(got) > 0 {
		t.Errorf("Get(%d) returns %q, %t", addr, got, there)
	}
}

func checkOffer(t *testing.T, b *both, addr uint32, block []byte, want bool) {
	t.Helper()
	if got := b.offer(t, addr, block); got != want {
		t.Errorf("Offer(%d) returns %t", addr, got)
	}
}

func checkDrop(t *testing.T, b *both, addr uint32, want bool) {
	t.Helper()
	if got := b.drop(t, addr); got != want {
		t.Errorf("Drop(%d) returns %t", addr, got)
	}
}

// checkKnown checks which addresses are on the list of a cache that may have blocks, the latest one first. What tells is Offer, so that other caches are asked, on which the same was called.
func checkKnown(t *testing.T, b *both, want ...uint32) {
	t.Helper()
	for gone := range len(want) + 1 {
		// So many addresses were forgotten, behind others that are new.
		fresh := row(1<<20, b.r.most-len(want)+gone)
		left := want[:len(want)-gone]
		c := b.again(t)
		offerAll(c, fresh)
		for _, a := range left {
			if !offerDropped(c, a) {
				t.Errorf("%d is not on the list, with %d gone", a, gone)
			}
		}
		for _, a := range b.others(left) {
			c := b.again(t)
			offerAll(c, fresh)
			if offerDropped(c, a) {
				t.Errorf("%d is on the list, with %d gone", a, gone)
			}
		}
	}
}

func offerAll(c *hot.Cache, addrs []uint32) {
	for _, a := range addrs {
		c.Offer(a, nil)
	}
}

// offerDropped tells whether an address is on the list, also if its block is cached.
func offerDropped(c *hot.Cache, addr uint32) bool {
	c.Drop(addr)
	return c.Offer(addr, nil)
}

// others returns the addresses that any call had or may have, without those of l.
func (b *both) others(l []uint32) []uint32 {
	all := edges()
	for _, k := range b.calls {
		all = append(all, k.addr)
	}
	slices.Sort(all)
	return slices.DeleteFunc(slices.Compact(all), func(a uint32) bool { return slices.Contains(l, a) })
}

func checkNewRefuses(t *testing.T, room, known int) {
	t.Helper()
	if c, err := hot.New(room, known); c != nil || err != api.ErrArg {
		t.Errorf("New(%d, %d) returns %t, %d", room, known, c != nil, err)
	}
}

// row returns the n addresses from from on.
func row(from uint32, n int) []uint32 {
	l := make([]uint32, n)
	for i := range l {
		l[i] = from + uint32(i)
	}
	return l
}

// back returns the addresses in the other order.
func back(l []uint32) []uint32 {
	l = slices.Clone(l)
	slices.Reverse(l)
	return l
}

// without returns the addresses without the one at a place.
func without(l []uint32, at int) []uint32 {
	return slices.Concat(l[:at], l[at+1:])
}

// numbers returns how much room a cache or a list may have: the least and the most, and some between.
func numbers() []int {
	return []int{0, 1, 2, 3, 4, 7, 100, 255, 256, 4095, 4096}
}

// wrong returns how much it may not have.
func wrong() []int {
	return []int{math.MinInt, math.MinInt + 1, math.MinInt + 5, math.MinInt32, -1 << 32, -4097, -4096, -2, -1,
		4097, 4098, 1 << 16, 1<<16 + 1, 1<<31 - 1, 1 << 31, 1 << 32, 1<<32 + 1, math.MaxInt - 1, math.MaxInt}
}

// blocks returns blocks of different lengths.
func blocks() [][]byte {
	return [][]byte{{7}, bytes.Repeat([]byte{9}, 255), nil, bytes.Repeat([]byte{1, 2}, 128), {}, {0}, make([]byte, 256),
		bytes.Repeat([]byte{255}, 257), {1, 2, 3}, bytes.Repeat([]byte{5, 6, 7}, 30000)}
}

// P16.1: New

func TestNewOfEachNumber(t *testing.T) {
	if api.MaxList != 4096 {
		t.Fatalf("MaxList is %d", api.MaxList)
	}
	for n := range 4097 {
		checkAll(t, pair(t, n, 5))
		checkAll(t, pair(t, 5, n))
		checkAll(t, pair(t, n, 4096-n))
	}
	for _, no := range wrong() {
		for _, n := range numbers() {
			checkNewRefuses(t, no, n)
			checkNewRefuses(t, n, no)
		}
		for _, n := range wrong() {
			checkNewRefuses(t, no, n)
		}
	}
}

func TestNewIsEmpty(t *testing.T) {
	for _, room := range numbers() {
		for _, known := range numbers() {
			b := pair(t, room, known)
			for _, a := range edges() {
				checkGetNone(t, b, a)
				checkDrop(t, b, a, false)
			}
			for _, a := range edges() {
				// Nor is an address on the list.
				checkOffer(t, b, a, text(a), false)
			}
			checkAll(t, b)
		}
	}
}

func TestCachesAreIndependent(t *testing.T) {
	one, other := cached(t, 3, 5, 1, 2), cached(t, 3, 5, 2, 3)
	checkOffer(t, one, 2, []byte("one"), true)
	checkOffer(t, one, 7, nil, false)
	other.checkBlocks(t, "the other")
	checkGet(t, other, 2, text(2))
	checkOffer(t, other, 7, nil, false)
	checkOffer(t, other, 7, nil, true)
	checkDrop(t, other, 3, true)
	checkAll(t, one, 2, 1)
	checkAll(t, other, 7, 2)
	checkOffer(t, one, 7, text(7), true)
	checkAll(t, one, 7, 2, 1)
	checkGet(t, one, 2, []byte("one"))
}

// P16.1: Get

func TestGetOfABlockAtEachPlace(t *testing.T) {
	for n := 1; n <= 6; n++ {
		for _, room := range []int{n, n + 1, 100} {
			for at := range n {
				addrs := row(40, n)
				b := cached(t, room, 4, addrs...)
				for range 2 {
					checkGet(t, b, addrs[at], text(addrs[at]))
					checkAll(t, b, back(append(without(addrs, at), addrs[at]))...)
				}
				b.checkBlocks(t, "behind Get")
			}
		}
	}
}

func TestGetOfEachTwoBlocks(t *testing.T) {
	for one := range 5 {
		for other := range 5 {
			b := cached(t, 5, 4, row(40, 5)...)
			b.get(t, uint32(40+one))
			b.get(t, uint32(40+other))
			b.check(t, "behind two Gets")
			for a := range uint32(5) {
				b.offer(t, a, nil)
				b.offer(t, a, nil)
				b.check(t, "behind more blocks")
			}
		}
	}
}

func TestGetOfABlockThatIsNotCached(t *testing.T) {
	b := cached(t, 3, 4, 8, 6, 7)
	checkOffer(t, b, 5, text(5), false)
	for _, a := range append(edges(), 5, 9) {
		for range 2 {
			checkGetNone(t, b, a)
			checkAll(t, b, 7, 6, 8)
		}
	}
	// It is no offer.
	checkKnown(t, b, 5)
	checkOffer(t, b, 5, text(5), true)
	checkAll(t, b, 5, 7, 6)
	// 8 was removed for room.
	checkGetNone(t, b, 8)
	checkKnown(t, b)
}

func TestGetChangesNothingOfTheList(t *testing.T) {
	b := cached(t, 3, 3, 1, 2)
	for _, a := range []uint32{11, 12, 13} {
		checkOffer(t, b, a, nil, false)
	}
	for _, a := range []uint32{1, 2, 11, 12, 13, 14, 11} {
		b.get(t, a)
		checkKnown(t, b, 13, 12, 11)
	}
}

func TestGetOfBlocksOfEachLength(t *testing.T) {
	b := pair(t, 100, 5)
	for i, block := range blocks() {
		a := uint32(i)
		checkOffer(t, b, a, block, false)
		checkGetNone(t, b, a)
		checkOffer(t, b, a, block, true)
		for range 3 {
			checkGet(t, b, a, block)
		}
	}
	for i, block := range blocks() {
		checkGet(t, b, uint32(i), block)
	}
}

// P16.1: Offer

func TestOfferOfABlockThatIsNew(t *testing.T) {
	b := pair(t, 3, 4)
	for i, a := range []uint32{20, 10, 30, 0} {
		checkOffer(t, b, a, text(a), false)
		checkAll(t, b)
		checkGetNone(t, b, a)
		checkKnown(t, b, back([]uint32{20, 10, 30, 0}[:i+1])...)
	}
}

func TestOfferOfABlockThatWasOfferedBefore(t *testing.T) {
	addrs := []uint32{20, 10, 30, 0, 40}
	for at := range addrs {
		for _, room := range []int{1, 2, 100} {
			b := pair(t, room, 5)
			for _, a := range addrs {
				checkOffer(t, b, a, []byte("old"), false)
			}
			checkOffer(t, b, addrs[at], []byte("new"), true)
			checkAll(t, b, addrs[at])
			checkGet(t, b, addrs[at], []byte("new"))
			checkKnown(t, b, back(without(addrs, at))...)
		}
	}
}

func TestOfferOfABlockThatWasForgotten(t *testing.T) {
	for _, known := range numbers()[1:] {
		for _, others := range []int{0, 1, known - 2, known - 1, known, known + 1, 2 * known} {
			if others < 0 {
				continue
			}
			b := pair(t, 2, known)
			checkOffer(t, b, 7, text(7), false)
			for _, a := range row(50, others) {
				checkOffer(t, b, a, nil, false)
			}
			checkOffer(t, b, 7, text(7), others < known)
			checkOffer(t, b, 7, text(7), true)
			checkAll(t, b, 7)
		}
	}
	b := pair(t, 2, 2)
	for _, a := range []uint32{1, 2, 3} {
		checkOffer(t, b, a, nil, false)
	}
	checkKnown(t, b, 3, 2)
	checkOffer(t, b, 1, nil, false)
	checkKnown(t, b, 1, 3)
	checkAll(t, b)
}

func TestOfferOfACachedBlockAtEachPlace(t *testing.T) {
	for n := 1; n <= 6; n++ {
		for _, room := range []int{n, n + 1, 100} {
			for at := range n {
				addrs := row(40, n)
				b := cached(t, room, 4, addrs...)
				for _, block := range [][]byte{[]byte("new"), []byte("newer than that"), nil, {0}} {
					checkOffer(t, b, addrs[at], block, true)
					checkAll(t, b, back(append(without(addrs, at), addrs[at]))...)
					b.checkBlocks(t, "behind Offer")
				}
			}
		}
	}
}

func TestOfferOfACachedBlockOfEachLength(t *testing.T) {
	for _, one := range blocks() {
		for _, other := range blocks() {
			b := cached(t, 4, 5, 1, 2, 3)
			checkOffer(t, b, 2, one, true)
			checkOffer(t, b, 2, other, true)
			checkAll(t, b, 2, 3, 1)
			checkGet(t, b, 2, other)
			checkGet(t, b, 1, text(1))
			checkGet(t, b, 3, text(3))
		}
	}
}

func TestOfferOfACachedBlockChangesNothingOfTheList(t *testing.T) {
	b := cached(t, 3, 3, 1, 2)
	checkOffer(t, b, 1, nil, true)
	checkKnown(t, b)
	for _, a := range []uint32{11, 12, 13} {
		checkOffer(t, b, a, nil, false)
	}
	for _, a := range []uint32{1, 1, 2, 1, 2} {
		checkOffer(t, b, a, text(a), true)
		checkKnown(t, b, 13, 12, 11)
	}
	// Offered however often, it makes no other one forgotten.
	for range 20 {
		checkOffer(t, b, 2, nil, true)
	}
	checkOffer(t, b, 11, nil, true)
	checkAll(t, b, 11, 2, 1)
	checkKnown(t, b, 13, 12)
}

func TestACachedBlockIsNotOnTheList(t *testing.T) {
	for _, way := range []string{"dropped", "removed for room"} {
		b := cached(t, 2, 4, 1, 2)
		checkKnown(t, b)
		if way == "dropped" {
			checkDrop(t, b, 1, true)
		} else {
			checkOffer(t, b, 3, nil, false)
			checkOffer(t, b, 3, nil, true)
		}
		checkGetNone(t, b, 1)
		checkKnown(t, b)
		checkOffer(t, b, 1, text(1), false)
		checkKnown(t, b, 1)
		checkGetNone(t, b, 1)
		checkOffer(t, b, 1, []byte("once more"), true)
		checkKnown(t, b)
		checkGet(t, b, 1, []byte("once more"))
	}
}

func TestOfferWithARoomOfZero(t *testing.T) {
	for _, known := range numbers() {
		b := pair(t, 0, known)
		for _, a := range edges() {
			for range 4 {
				checkOffer(t, b, a, text(a), false)
				checkAll(t, b)
				checkGetNone(t, b, a)
			}
			checkDrop(t, b, a, false)
		}
	}
}

func TestOfferWithAKnownOfZero(t *testing.T) {
	for _, room := range numbers() {
		b := pair(t, room, 0)
		for _, a := range edges() {
			for range 4 {
				checkOffer(t, b, a, text(a), false)
				checkAll(t, b)
				checkGetNone(t, b, a)
			}
			checkDrop(t, b, a, false)
		}
	}
}

func TestOfferWithARoomAndAKnownOfOne(t *testing.T) {
	b := pair(t, 1, 1)
	checkOffer(t, b, 5, text(5), false)
	checkOffer(t, b, 5, text(5), true)
	checkAll(t, b, 5)
	checkOffer(t, b, 6, text(6), false)
	checkGet(t, b, 5, text(5))
	checkOffer(t, b, 7, text(7), false)
	checkOffer(t, b, 6, text(6), false)
	checkAll(t, b, 5)
	checkOffer(t, b, 6, text(6), true)
	checkAll(t, b, 6)
	checkGetNone(t, b, 5)
	checkOffer(t, b, 6, nil, true)
	checkGet(t, b, 6, nil)
	checkDrop(t, b, 6, true)
	checkAll(t, b)
}

func TestOfferOfRoomBlocksAndMore(t *testing.T) {
	for _, room := range numbers()[1:] {
		b := pair(t, room, 1+room%3)
		addrs := row(1000, 2*room+3)
		for i, a := range addrs {
			checkOffer(t, b, a, text(a), false)
			checkOffer(t, b, a, text(a), true)
			if i < 5 || i >= room-2 && i <= room+3 || i == len(addrs)-1 {
				checkAll(t, b, back(addrs[max(0, i+1-room):i+1])...)
			}
		}
		// The last of those that were removed is not cached, and the first one that was not is.
		checkGetNone(t, b, addrs[room+2])
		checkGet(t, b, addrs[room+3], text(addrs[room+3]))
		checkAll(t, b, append([]uint32{addrs[room+3]}, back(addrs[room+4:])...)...)
		b.checkBlocks(t, "full")
		// What was removed for room is not on the list.
		for _, a := range addrs[:room+3] {
			checkOffer(t, b, a, nil, false)
		}
	}
}

func TestOfferThatIsRefusedRemovesNothing(t *testing.T) {
	b := cached(t, 3, 2, 1, 2, 3)
	for _, a := range row(10, 20) {
		checkOffer(t, b, a, text(a), false)
		checkAll(t, b, 3, 2, 1)
	}
	b.checkBlocks(t, "behind refused blocks")
}

// use makes a block the most recently used one, in one of two ways, or drops it.
func use(t *testing.T, b *both, way string, addr uint32) {
	t.Helper()
	switch way {
	case "get":
		checkGet(t, b, addr, text(addr))
	case "offer":
		checkOffer(t, b, addr, text(addr), true)
	default:
		checkDrop(t, b, addr, true)
	}
}

func TestTheLeastRecentlyUsedBlockIsRemoved(t *testing.T) {
	for _, one := range []string{"get", "offer", "drop"} {
		for _, other := range []string{"get", "offer", "drop"} {
			for first := range 5 {
				for second := range 4 {
					order := row(60, 5)
					b := cached(t, 5, 4, order...)
					for i, at := range []int{first, second} {
						way, a := []string{one, other}[i], order[at]
						use(t, b, way, a)
						order = without(order, at)
						if way != "drop" {
							order = append(order, a)
						}
						checkAll(t, b, back(order)...)
					}
					for a := range uint32(12) {
						checkOffer(t, b, a, text(a), false)
						checkOffer(t, b, a, text(a), true)
						order = append(order, a)
						order = order[max(0, len(order)-5):]
						checkAll(t, b, back(order)...)
					}
					b.checkBlocks(t, "behind more blocks")
				}
			}
		}
	}
}

func TestOfferOfAddressZeroAndTheGreatestOne(t *testing.T) {
	for _, a := range []uint32{0, math.MaxUint32} {
		b := pair(t, 2, 2)
		checkOffer(t, b, a, []byte("a"), false)
		checkOffer(t, b, ^a, []byte("b"), false)
		checkKnown(t, b, ^a, a)
		checkOffer(t, b, a, []byte("c"), true)
		checkAll(t, b, a)
		checkGetNone(t, b, ^a)
		checkOffer(t, b, ^a, []byte("d"), true)
		checkAll(t, b, ^a, a)
		checkGet(t, b, a, []byte("c"))
		checkGet(t, b, ^a, []byte("d"))
		checkGet(t, b, a, []byte("c"))
		checkOffer(t, b, 7, nil, false)
		checkOffer(t, b, 7, nil, true)
		checkAll(t, b, 7, a)
		checkDrop(t, b, ^a, false)
		checkDrop(t, b, a, true)
		checkAll(t, b, 7)
	}
}

func TestOfferOfEdges(t *testing.T) {
	b := cached(t, len(edges()), 1, edges()...)
	checkAll(t, b, back(edges())...)
	for _, a := range edges() {
		checkGet(t, b, a, text(a))
	}
	checkAll(t, b, back(edges())...)
	for i, a := range edges() {
		checkDrop(t, b, a, true)
		checkGetNone(t, b, a)
		checkAll(t, b, back(edges()[i+1:])...)
	}
}

// P16.2: Drop

func TestDropOfABlockAtEachPlace(t *testing.T) {
	for n := 1; n <= 6; n++ {
		for _, room := range []int{n, n + 1, 100} {
			for at := range n {
				addrs := row(40, n)
				b := cached(t, room, 4, addrs...)
				checkDrop(t, b, addrs[at], true)
				left := without(addrs, at)
				checkAll(t, b, back(left)...)
				checkGetNone(t, b, addrs[at])
				checkDrop(t, b, addrs[at], false)
				checkAll(t, b, back(left)...)
				b.checkBlocks(t, "behind Drop")
				// It comes back as the most recently used one.
				checkOffer(t, b, addrs[at], nil, false)
				checkOffer(t, b, addrs[at], nil, true)
				checkAll(t, b, back(append(left, addrs[at]))...)
			}
		}
	}
}

func TestDropOfABlockThatIsNotCached(t *testing.T) {
	b := cached(t, 3, 4, 9, 8, 6, 7)
	checkOffer(t, b, 5, text(5), false)
	for _, a := range append(edges(), 5, 9) {
		for range 2 {
			checkDrop(t, b, a, false)
			checkAll(t, b, 7, 6, 8)
		}
	}
	b.checkBlocks(t, "behind Drops")
	checkKnown(t, b, 5)
}

func TestDropOfTheOnlyOne(t *testing.T) {
	for _, room := range numbers()[1:] {
		b := pair(t, room, 2)
		for range 3 {
			checkOffer(t, b, 9, text(9), false)
			checkOffer(t, b, 9, text(9), true)
			checkAll(t, b, 9)
			for i := range 3 {
				checkDrop(t, b, 9, i == 0)
				checkAll(t, b)
				checkGetNone(t, b, 9)
			}
		}
		checkOffer(t, b, 4, text(4), false)
		checkOffer(t, b, 4, text(4), true)
		checkAll(t, b, 4)
	}
}

func TestDropOfAll(t *testing.T) {
	for _, addrs := range [][]uint32{{1, 2, 3, 4}, {4, 3, 2, 1}, {2, 3, 1, 4}, {3, 1, 4, 2}} {
		b := cached(t, 4, 4, 1, 2, 3, 4)
		for _, a := range addrs {
			checkDrop(t, b, a, true)
			b.checkBlocks(t, "dropped")
		}
		checkAll(t, b)
		for _, a := range addrs {
			checkOffer(t, b, a, text(a), false)
			checkOffer(t, b, a, text(a), true)
			b.checkBlocks(t, "offered")
		}
		checkAll(t, b, back(addrs)...)
	}
}

func TestDropMakesRoom(t *testing.T) {
	b := cached(t, 3, 4, 1, 2, 3)
	checkDrop(t, b, 2, true)
	for _, a := range []uint32{4, 5} {
		checkOffer(t, b, a, text(a), false)
	}
	checkOffer(t, b, 4, text(4), true)
	checkAll(t, b, 4, 3, 1)
	checkOffer(t, b, 5, text(5), true)
	checkAll(t, b, 5, 4, 3)
	b.checkBlocks(t, "behind a Drop")
}

func TestDropChangesNothingOfTheList(t *testing.T) {
	b := cached(t, 3, 3, 1, 2, 3)
	for _, a := range []uint32{11, 12, 13} {
		checkOffer(t, b, a, nil, false)
	}
	for _, a := range []uint32{2, 2, 12, 12, 99, 3, 11, 13, 1, 1} {
		b.drop(t, a)
		checkKnown(t, b, 13, 12, 11)
	}
	checkAll(t, b)
	checkOffer(t, b, 12, text(12), true)
	checkAll(t, b, 12)
}

// P16.2: All

func TestAllOfAnEmptyCache(t *testing.T) {
	for _, room := range numbers() {
		b := pair(t, room, 3)
		checkAll(t, b)
		b.offer(t, 1, nil)
		checkAll(t, b)
		b.offer(t, 1, nil)
		b.drop(t, 1)
		checkAll(t, b)
	}
}

func TestAllOfAFullCache(t *testing.T) {
	addrs := row(math.MaxUint32-4095, 4096)
	b := cached(t, 4096, 4096, addrs...)
	checkAll(t, b, back(addrs)...)
	checkGet(t, b, addrs[2000], text(addrs[2000]))
	addrs = append(without(addrs, 2000), addrs[2000])
	checkAll(t, b, back(addrs)...)
	checkOffer(t, b, 3, text(3), false)
	checkAll(t, b, back(addrs)...)
	checkOffer(t, b, 3, text(3), true)
	checkAll(t, b, back(append(addrs[1:], 3))...)
}

func TestAllOfAFullList(t *testing.T) {
	// The list does not make room for blocks, nor do the blocks for what is on the list.
	addrs := row(0, 4096)
	b := pair(t, 4096, 4096)
	for _, a := range addrs {
		checkOffer(t, b, a, text(a), false)
	}
	checkAll(t, b)
	for _, a := range addrs {
		checkOffer(t, b, a, text(a), true)
	}
	checkAll(t, b, back(addrs)...)
	for _, a := range row(5000, 4096) {
		checkOffer(t, b, a, nil, false)
	}
	checkAll(t, b, back(addrs)...)
	checkOffer(t, b, 5000, nil, true)
	checkAll(t, b, append([]uint32{5000}, back(addrs[1:])...)...)
}

func TestAllChangesNothing(t *testing.T) {
	d := dice(1)
	b := pair(t, 6, 5)
	for range 200 {
		b.step(t, &d, 12)
		for range 3 {
			b.check(t, "asked several times")
		}
	}
}

// checkNothing checks that a cache has no block, whatever is called.
func checkNothing(t *testing.T, c *hot.Cache) {
	t.Helper()
	for _, a := range edges() {
		for _, block := range append(blocks(), nil) {
			if c.Offer(a, block) {
				t.Errorf("Offer(%d) returns true", a)
			}
			if got, there := c.Get(a); there || len(got) > 0 {
				t.Errorf("Get(%d) returns %q, %t", a, got, there)
			}
			if c.Drop(a) {
				t.Errorf("Drop(%d) returns true", a)
			}
			if l := c.All(); len(l) > 0 {
				t.Errorf("All returns %d addresses", len(l))
			}
		}
	}
}

func TestNilCache(t *testing.T) {
	checkNothing(t, nil)
	c, _ := hot.New(-1, 5)
	checkNothing(t, c)
	c, _ = hot.New(5, -1)
	checkNothing(t, c)
}

func TestCacheThatNobodyMade(t *testing.T) {
	checkNothing(t, &hot.Cache{})
}

// P16.3

// checkBounds checks that a cache has no more blocks than it has room for, and none twice.
func checkBounds(t *testing.T, c *hot.Cache, room int) {
	t.Helper()
	all := c.All()
	if len(all) > room {
		t.Fatalf("%d blocks are in a cache for %d", len(all), room)
	}
	slices.Sort(all)
	if n := len(slices.Compact(all)); n < len(all) {
		t.Fatalf("%d blocks are in the cache, %d of them once", len(all), n)
	}
}

func TestAnyCalls(t *testing.T) {
	d := dice(2)
	for i := range 300 {
		room, known := i%12, d.roll(12)
		b := pair(t, room, known)
		for k := range 120 {
			b.step(t, &d, 1+d.roll(2*room+2))
			b.check(t, "any calls")
			checkBounds(t, b.c, room)
			if k%20 == 0 {
				b.checkBlocks(t, "any calls")
			}
		}
	}
}

func TestManyCalls(t *testing.T) {
	d := dice(3)
	for _, room := range []int{100, 1000, 4096} {
		b := pair(t, room, room/2)
		for i := range 20000 {
			b.step(t, &d, room*2)
			if i%1000 == 0 {
				b.check(t, "many calls")
				checkBounds(t, b.c, room)
			}
		}
		b.checkBlocks(t, "many calls")
	}
}

func TestGetReturnsWhatWasOfferedLast(t *testing.T) {
	d := dice(4)
	found := 0
	for i := range 100 {
		c := pair(t, 1+i%7, 1+i%5).c
		last := map[uint32][]byte{}
		for range 100 {
			a, block := d.addr(8), d.block()
			c.Offer(a, block)
			last[a] = block
			a = d.addr(8)
			got, there := c.Get(a)
			if there && !bytes.Equal(got, last[a]) {
				t.Fatalf("Get(%d) returns %q, where %q was offered last", a, got, last[a])
			}
			if there {
				found++
			}
			if d.roll(9) == 0 {
				c.Drop(d.addr(8))
			}
		}
	}
	if found < 2000 || found > 8000 {
		t.Errorf("%d of 10000 blocks were found", found)
	}
}

// P16.4

func TestABlockThatIsOfferedTwiceIsCached(t *testing.T) {
	d := dice(5)
	for i := range 200 {
		room, known := 1+i%6, 1+i%7
		b := pair(t, room, known)
		for range 50 {
			for range d.roll(4) {
				b.step(t, &d, 10)
			}
			a, block := d.addr(10), d.block()
			b.offer(t, a, d.block())
			checkOffer(t, b, a, block, true)
			if all := b.c.All(); all[0] != a {
				t.Errorf("%d was used most recently, not %d", all[0], a)
			}
			checkGet(t, b, a, block)
		}
	}
}

func TestABlockThatIsOfferedTwiceIsCachedWithEachRoom(t *testing.T) {
	for _, room := range numbers() {
		for _, known := range numbers() {
			b := pair(t, room, known)
			is := room > 0 && known > 0
			for _, a := range edges() {
				checkOffer(t, b, a, text(a), false)
				checkOffer(t, b, a, text(a), is)
				checkOffer(t, b, a, text(a), is)
				if is {
					checkGet(t, b, a, text(a))
				} else {
					checkGetNone(t, b, a)
				}
			}
		}
	}
}

// The chapter's example

func TestExample(t *testing.T) {
	b := pair(t, 1, 5)
	checkOffer(t, b, 3, text(3), false)
	checkOffer(t, b, 3, text(3), true)
	checkGet(t, b, 3, text(3))
	checkOffer(t, b, 4, text(4), false)
	checkOffer(t, b, 4, text(4), true)
	checkGetNone(t, b, 3)
	checkGet(t, b, 4, text(4))
}

// Rules 3 to 6 of the document

func TestNilAndEmptyBlocksAreTheSame(t *testing.T) {
	for _, block := range [][]byte{nil, {}, make([]byte, 0, 300)} {
		b := cached(t, 2, 2, 1)
		checkOffer(t, b, 1, block, true)
		checkGet(t, b, 1, nil)
		checkOffer(t, b, 2, block, false)
		checkOffer(t, b, 2, block, true)
		checkGet(t, b, 2, nil)
		checkAll(t, b, 2, 1)
	}
}

// guarded returns the bytes as a part of a greater array, and that array.
func guarded(block []byte) (inner, array []byte) {
	array = slices.Concat([]byte{77, 77}, block, bytes.Repeat([]byte{77}, 300))
	return array[2 : 2+len(block) : len(array)], array
}

// spoil changes all bytes or addresses, those behind the length too.
func spoil[T byte | uint32](l []T) {
	l = l[:cap(l)]
	for i := range l {
		l[i] ^= 5
	}
}

func TestBlocksHandedInAreNotChanged(t *testing.T) {
	d := dice(6)
	b := pair(t, 5, 4)
	for range 500 {
		inner, array := guarded(d.block())
		was := slices.Clone(array)
		b.offer(t, d.addr(8), inner)
		for range d.roll(4) {
			b.step(t, &d, 8)
		}
		if !bytes.Equal(array, was) {
			t.Fatal("a block handed in was changed")
		}
	}
}

func TestBlocksHandedInAreNotKept(t *testing.T) {
	// Offered for the first time, for the second one, and while the block is cached.
	for _, block := range blocks() {
		for at := range 4 {
			b := pair(t, 3, 3)
			var arrays [][]byte
			for i := range at + 1 {
				inner, array := guarded(block)
				b.offer(t, 1, inner)
				arrays = append(arrays, array)
				if i > 0 {
					checkGet(t, b, 1, block)
				}
			}
			for _, array := range arrays {
				spoil(array)
			}
			b.checkBlocks(t, "behind a change of what was handed in")
			if at > 0 {
				checkGet(t, b, 1, block)
			}
		}
	}
}

func TestBlocksHandedInAreNotKeptBehindAnyCalls(t *testing.T) {
	d := dice(7)
	b := pair(t, 6, 4)
	for range 500 {
		a := d.addr(9)
		inner, array := guarded(d.block())
		b.offer(t, a, inner)
		spoil(array)
		b.get(t, a)
		b.get(t, d.addr(9))
		b.check(t, "behind a change of what was handed in")
	}
}

func TestBlocksBeyondTheLengthAreNotRead(t *testing.T) {
	for _, block := range blocks() {
		inner, _ := guarded(block)
		b := cached(t, 2, 2, 1)
		checkOffer(t, b, 1, inner, true)
		checkOffer(t, b, 2, inner, false)
		checkOffer(t, b, 2, inner, true)
		checkGet(t, b, 1, block)
		checkGet(t, b, 2, block)
	}
}

func TestBlocksAreTheCallersOwn(t *testing.T) {
	for _, block := range blocks() {
		b := cached(t, 3, 2, 1, 2, 3)
		checkOffer(t, b, 2, block, true)
		one, _ := b.get(t, 2)
		other, _ := b.get(t, 2)
		spoil(one)
		if !bytes.Equal(other, block) {
			t.Error("two results share memory")
		}
		checkGet(t, b, 2, block)
		// Nor is there room behind a result that anything else is put into.
		spoil(append(other, 77))
		checkGet(t, b, 2, block)
		checkGet(t, b, 1, text(1))
		checkGet(t, b, 3, text(3))
	}
}

func TestBlocksStayAsTheyWere(t *testing.T) {
	d := dice(8)
	b := pair(t, 5, 4)
	for range 30 {
		var got, was [][]byte
		for range 40 {
			b.step(t, &d, 7)
			block, _ := b.get(t, d.addr(7))
			got, was = append(got, block), append(was, slices.Clone(block))
		}
		for i := range got {
			if !bytes.Equal(got[i], was[i]) {
				t.Fatalf("a result became %q, which was %q", got[i], was[i])
			}
		}
	}
}

func TestAddressesAreTheCallersOwn(t *testing.T) {
	d := dice(9)
	for _, room := range []int{0, 1, 2, 8} {
		b := pair(t, room, 5)
		for range 200 {
			b.step(t, &d, 10)
			one, other := b.c.All(), b.c.All()
			was := slices.Clone(other)
			spoil(one)
			if !slices.Equal(other, was) {
				t.Errorf("two results share memory: %s", differ(other, was))
			}
			b.check(t, "behind a change of results")
			spoil(append(b.c.All(), 77))
			b.check(t, "behind a change of results")
		}
	}
}

func TestAddressesStayAsTheyWere(t *testing.T) {
	d := dice(10)
	for range 50 {
		b := pair(t, 10, 6)
		for range 40 {
			b.step(t, &d, 15)
		}
		all, was := b.c.All(), b.r.all()
		for range 40 {
			b.step(t, &d, 15)
		}
		if !slices.Equal(all, was) {
			t.Errorf("a result became %s", differ(all, was))
		}
	}
}

func TestSameCallsSameResults(t *testing.T) {
	// Between the calls on one, the other gets the same.
	one, other := dice(11), dice(11)
	a, b := pair(t, 6, 4), pair(t, 6, 4)
	for range 300 {
		a.step(t, &one, 9)
		b.check(t, "the other")
		b.step(t, &other, 9)
		a.check(t, "the one")
	}
	a.checkBlocks(t, "the one")
	b.checkBlocks(t, "the other")
}

func TestSeveralAtATime(t *testing.T) {
	done := make(chan []uint32)
	for range 8 {
		go func() {
			d := dice(12)
			c, _ := hot.New(50, 30)
			for range 5000 {
				switch a := d.addr(80); d.roll(6) {
				case 0:
					c.Drop(a)
				case 1:
					c.Get(a)
				default:
					c.Offer(a, d.block())
				}
			}
			done <- c.All()
		}()
	}
	first := <-done
	for range 7 {
		if l := <-done; !slices.Equal(l, first) {
			t.Errorf("the same calls leave %s", differ(l, first))
		}
	}
}
