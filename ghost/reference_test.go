package ghost_test

import (
	"fmt"
	"math"
	"slices"
	"testing"

	"pumice/api"
	"pumice/ghost"
)

// reference is a list in a plain way: its addresses in a row, the oldest one first.
type reference struct {
	room int
	l    []uint32
}

func (r *reference) ask(addr uint32) bool {
	if r.drop(addr) {
		return true
	}
	r.l = append(r.l, addr)
	if len(r.l) > r.room {
		r.l = r.l[1:]
	}
	return false
}

func (r *reference) drop(addr uint32) bool {
	i := slices.Index(r.l, addr)
	if i < 0 {
		return false
	}
	r.l = slices.Concat(r.l[:i], r.l[i+1:])
	return true
}

func (r *reference) all() []uint32 {
	l := slices.Clone(r.l)
	slices.Reverse(l)
	return l
}

// differ tells where two lists differ first.
func differ(got, want []uint32) string {
	for i := range min(len(got), len(want)) {
		if got[i] != want[i] {
			return fmt.Sprintf("%d at %d, not %d", got[i], i, want[i])
		}
	}
	return fmt.Sprintf("%d addresses, where %d are asked", len(got), len(want))
}

// check checks all that can be asked of a list without changing it.
func (r *reference) check(t *testing.T, what string, l *ghost.List) {
	t.Helper()
	got := l.All()
	if want := r.all(); !slices.Equal(got, want) {
		t.Fatalf("%s: All returns %s", what, differ(got, want))
	}
}

// edges returns addresses that differ in little.
func edges() []uint32 {
	return []uint32{0, 1, 2, 3, 255, 256, 4095, 4096, 1<<16 - 1, 1 << 16, 1<<31 - 1, 1 << 31, math.MaxUint32 - 1, math.MaxUint32}
}

// both is a list, and the reference that goes with it.
type both struct {
	l *ghost.List
	r *reference
}

// pair returns a new list.
func pair(t *testing.T, room int) both {
	t.Helper()
	l, err := ghost.New(room)
	if l == nil || err != api.OK {
		t.Fatalf("New(%d) returns %t, %d", room, l != nil, err)
	}
	b := both{l, &reference{room: room}}
	b.check(t, "New")
	return b
}

// asked returns a list for which those addresses were asked, none of which is there before.
func asked(t *testing.T, room int, addrs ...uint32) both {
	t.Helper()
	b := pair(t, room)
	for _, a := range addrs {
		if b.ask(t, a) {
			t.Fatalf("Ask(%d) returns true", a)
		}
	}
	b.check(t, "asked")
	return b
}

func (b both) check(t *testing.T, what string) {
	t.Helper()
	b.r.check(t, what, b.l)
}

// ask and drop do the same to both, and check what was answered.
func (b both) ask(t *testing.T, addr uint32) bool {
	t.Helper()
	got, want := b.l.Ask(addr), b.r.ask(addr)
	if got != want {
		t.Fatalf("Ask(%d) returns %t", addr, got)
	}
	return got
}

func (b both) drop(t *testing.T, addr uint32) bool {
	t.Helper()
	got, want := b.l.Drop(addr), b.r.drop(addr)
	if got != want {
		t.Fatalf("Drop(%d) returns %t", addr, got)
	}
	return got
}

// dice yields numbers in no order to speak of, the same ones each time.
type dice uint32

func (d *dice) roll(n int) int {
	*d = *d*1664525 + 1013904223
	return int(*d>>16) % n
}

// addr returns one of n addresses, or, now and then, another one.
func (d *dice) addr(n int) uint32 {
	if d.roll(8) > 0 {
		return uint32(d.roll(n))
	}
	l := edges()
	return l[d.roll(len(l))]
}

// step makes a call that the dice choose, with one of some n addresses.
func (b both) step(t *testing.T, d *dice, n int) {
	t.Helper()
	if d.roll(5) > 0 {
		b.ask(t, d.addr(n))
	} else {
		b.drop(t, d.addr(n))
	}
}
