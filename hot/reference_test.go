package hot_test

import (
	"bytes"
	"fmt"
	"math"
	"slices"
	"testing"

	"pumice/api"
	"pumice/hot"
)

// kept is a block that is cached.
type kept struct {
	addr  uint32
	block []byte
}

// reference is a cache in a plain way: its blocks in a row, the least recently used one first, and the addresses on its list, the oldest one first.
type reference struct {
	room, most int
	l          []kept
	known      []uint32
}

// take removes a block, and returns it.
func (r *reference) take(addr uint32) (kept, bool) {
	i := slices.IndexFunc(r.l, func(k kept) bool { return k.addr == addr })
	if i < 0 {
		return kept{}, false
	}
	k := r.l[i]
	r.l = slices.Concat(r.l[:i], r.l[i+1:])
	return k, true
}

func (r *reference) get(addr uint32) ([]byte, bool) {
	k, there := r.take(addr)
	if there {
		r.l = append(r.l, k)
	}
	return k.block, there
}

func (r *reference) offer(addr uint32, block []byte) bool {
	_, there := r.take(addr)
	if !there && (!r.ask(addr) || r.room == 0) {
		return false
	}
	r.l = append(r.l, kept{addr, slices.Clone(block)})
	if len(r.l) > r.room {
		r.l = r.l[1:]
	}
	return true
}

func (r *reference) drop(addr uint32) bool {
	_, there := r.take(addr)
	return there
}

// ask is layer 15's Ask.
func (r *reference) ask(addr uint32) bool {
	if i := slices.Index(r.known, addr); i >= 0 {
		r.known = slices.Concat(r.known[:i], r.known[i+1:])
		return true
	}
	r.known = append(r.known, addr)
	if len(r.known) > r.most {
		r.known = r.known[1:]
	}
	return false
}

func (r *reference) all() []uint32 {
	var l []uint32
	for _, k := range slices.Backward(r.l) {
		l = append(l, k.addr)
	}
	return l
}

// differ tells where two lists differ first.
func differ(got, want []uint32) string {
	for i := range min(len(got), len(want)) {
		if got[i] != want[i] {
			return fmt.Sprintf("%d at %d, not %d", got[i], i, want[i])
		}
	}
	return fmt.Sprintf("%d addresses, where %d are asked", len(got), len(want))
}

// edges returns addresses that differ in little.
func edges() []uint32 {
	return []uint32{0, 1, 2, 3, 255, 256, 4095, 4096, 1<<16 - 1, 1 << 16, 1<<31 - 1, 1 << 31, math.MaxUint32 - 1, math.MaxUint32}
}

// call is what was called on a cache.
type call struct {
	name  string
	addr  uint32
	block []byte
}

// both is a cache, the reference that goes with it, and all that was called on them.
type both struct {
	c     *hot.Cache
	r     *reference
	calls []call
}

// pair returns a new cache.
func pair(t *testing.T, room, known int) *both {
	t.Helper()
	c, err := hot.New(room, known)
	if c == nil || err != api.OK {
		t.Fatalf("New(%d, %d) returns %t, %d", room, known, c != nil, err)
	}
	b := &both{c: c, r: &reference{room: room, most: known}}
	b.check(t, "New")
	return b
}

// cached returns a cache of those blocks, the most recently used one behind the others, with an empty list.
func cached(t *testing.T, room, known int, addrs ...uint32) *both {
	t.Helper()
	b := pair(t, room, known)
	for _, a := range addrs {
		checkOffer(t, b, a, text(a), false)
		checkOffer(t, b, a, text(a), true)
	}
	b.check(t, "cached")
	return b
}

// text returns bytes that tell an address.
func text(addr uint32) []byte {
	return fmt.Appendf(nil, "the block at %d", addr)
}

// check checks which blocks are cached, without using one.
func (b *both) check(t *testing.T, what string) {
	t.Helper()
	got := b.c.All()
	if want := b.r.all(); !slices.Equal(got, want) {
		t.Fatalf("%s: All returns %s", what, differ(got, want))
	}
}

// again returns a cache on which the same was called.
func (b *both) again(t *testing.T) *hot.Cache {
	t.Helper()
	c, err := hot.New(b.r.room, b.r.most)
	if err != api.OK {
		t.Fatalf("New(%d, %d) returns %d", b.r.room, b.r.most, err)
	}
	for _, k := range b.calls {
		switch k.name {
		case "get":
			c.Get(k.addr)
		case "offer":
			c.Offer(k.addr, k.block)
		default:
			c.Drop(k.addr)
		}
	}
	return c
}

// checkBlocks checks all bytes that are cached, in another cache, as that uses the blocks.
func (b *both) checkBlocks(t *testing.T, what string) {
	t.Helper()
	b.check(t, what)
	c := b.again(t)
	for _, k := range b.r.l {
		if got, there := c.Get(k.addr); !there || !bytes.Equal(got, k.block) {
			t.Fatalf("%s: Get(%d) returns %q, %t; not %q", what, k.addr, got, there, k.block)
		}
	}
}

// get, offer and drop do the same to both, and check what was answered.
func (b *both) get(t *testing.T, addr uint32) ([]byte, bool) {
	t.Helper()
	b.calls = append(b.calls, call{name: "get", addr: addr})
	got, there := b.c.Get(addr)
	want, is := b.r.get(addr)
	if there != is || !bytes.Equal(got, want) {
		t.Fatalf("Get(%d) returns %q, %t; not %q, %t", addr, got, there, want, is)
	}
	return got, there
}

func (b *both) offer(t *testing.T, addr uint32, block []byte) bool {
	t.Helper()
	b.calls = append(b.calls, call{"offer", addr, slices.Clone(block)})
	got, want := b.c.Offer(addr, block), b.r.offer(addr, block)
	if got != want {
		t.Fatalf("Offer(%d) returns %t", addr, got)
	}
	return got
}

func (b *both) drop(t *testing.T, addr uint32) bool {
	t.Helper()
	b.calls = append(b.calls, call{name: "drop", addr: addr})
	got, want := b.c.Drop(addr), b.r.drop(addr)
	if got != want {
		t.Fatalf("Drop(%d) returns %t", addr, got)
	}
	return got
}

// dice yields numbers in no order to speak of, the same ones each time.
type dice uint32

func (d *dice) roll(n int) int {
	*d = *d*1664525 + 1013904223
	return int(*d>>16) % n
}

// addr returns one of n addresses, or, now and then, another one.
func (d *dice) addr(n int) uint32 {
	if d.roll(8) > 0 {
		return uint32(d.roll(n))
	}
	l := edges()
	return l[d.roll(len(l))]
}

// block returns bytes of some length.
func (d *dice) block() []byte {
	lens := []int{0, 1, 2, 5, 255, 256, 257, 400}
	l := make([]byte, lens[d.roll(len(lens))])
	for i := range l {
		l[i] = byte(d.roll(256))
	}
	return l
}

// step makes a call that the dice choose, with one of some n addresses.
func (b *both) step(t *testing.T, d *dice, n int) {
	t.Helper()
	switch d.roll(8) {
	case 0:
		b.drop(t, d.addr(n))
	case 1, 2:
		b.get(t, d.addr(n))
	default:
		b.offer(t, d.addr(n), d.block())
	}
}
