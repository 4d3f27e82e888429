package queue_test

import (
	"fmt"
	"math"
	"slices"
	"testing"

	"pumice/api"
	"pumice/queue"
)

// reference is a queue in a plain way: all writes that there ever were, of which the first ones are popped.
type reference struct {
	l      []api.Write
	popped int
	next   uint64
}

// refer returns what a queue of those writes is.
func refer(l []api.Write, next uint64) *reference {
	return &reference{slices.Clone(l), 0, next}
}

func (r *reference) push(w api.Write) (uint64, api.Errno) {
	if w.Trim && (w.Key.Sum != api.Sum{} || w.Key.N != 0) || r.next == math.MaxUint64 {
		return 0, api.ErrArg
	}
	r.l = append(r.l, api.Write{Addr: w.Addr, Seq: r.next, Trim: w.Trim, Key: w.Key})
	r.next++
	return r.next - 1, api.OK
}

func (r *reference) last(addr uint32) (api.Write, bool) {
	for i := len(r.l) - 1; i >= r.popped; i-- {
		if r.l[i].Addr == addr {
			return r.l[i], true
		}
	}
	return api.Write{}, false
}

func (r *reference) front() (api.Write, bool) {
	if r.popped == len(r.l) {
		return api.Write{}, false
	}
	return r.l[r.popped], true
}

func (r *reference) pop() (api.Write, bool) {
	w, there := r.front()
	if there {
		r.popped++
	}
	return w, there
}

func (r *reference) all() []api.Write {
	return slices.Clone(r.l[r.popped:])
}

// loadable tells whether a queue may have those writes and that next number, each held against each one before.
func loadable(l []api.Write, next uint64) bool {
	for i, w := range l {
		if w.Seq < 1 || w.Seq >= next || w.Trim && w.Key != (api.Key{}) {
			return false
		}
		for _, v := range l[:i] {
			if v.Seq >= w.Seq {
				return false
			}
		}
	}
	return next > 0
}

// differ tells where two lists differ first.
func differ(got, want []api.Write) string {
	for i := range min(len(got), len(want)) {
		if got[i] != want[i] {
			return fmt.Sprintf("%v at %d, not %v", got[i], i, want[i])
		}
	}
	return fmt.Sprintf("%d writes, where %d are asked", len(got), len(want))
}

// check checks all that can be asked of a queue.
func (r *reference) check(t *testing.T, what string, q *queue.Queue) {
	t.Helper()
	l := r.all()
	if got := q.All(); !slices.Equal(got, l) {
		t.Fatalf("%s: All returns %s", what, differ(got, l))
	}
	if n := q.Len(); n != len(l) {
		t.Fatalf("%s: Len returns %d, not %d", what, n, len(l))
	}
	if n := q.Next(); n != r.next {
		t.Fatalf("%s: Next returns %d, not %d", what, n, r.next)
	}
	w, there := q.Front()
	if want, is := r.front(); w != want || there != is {
		t.Fatalf("%s: Front returns %v, %t; not %v, %t", what, w, there, want, is)
	}
	for _, a := range r.addrs() {
		w, there := q.Last(a)
		if want, is := r.last(a); w != want || there != is {
			t.Fatalf("%s: Last(%d) returns %v, %t; not %v, %t", what, a, w, there, want, is)
		}
	}
}

// addrs returns the addresses of all writes, the popped ones too, and some more.
func (r *reference) addrs() []uint32 {
	l := edges()
	for _, w := range r.l {
		l = append(l, w.Addr)
	}
	slices.Sort(l)
	return slices.Compact(l)
}

// edges returns addresses that differ in little.
func edges() []uint32 {
	return []uint32{0, 1, 2, 3, 255, 256, 4095, 4096, 1<<16 - 1, 1 << 16, 1<<31 - 1, 1 << 31, math.MaxUint32 - 1, math.MaxUint32}
}

// both is a queue, and the reference that goes with it.
type both struct {
	q *queue.Queue
	r *reference
}

// pair returns a new queue.
func pair(t *testing.T) both {
	t.Helper()
	q := queue.New()
	if q == nil {
		t.Fatal("New returns nil")
	}
	b := both{q, refer(nil, 1)}
	b.check(t, "New")
	return b
}

// loaded returns a queue of those writes.
func loaded(t *testing.T, next uint64, l ...api.Write) both {
	t.Helper()
	q, err := queue.Load(l, next)
	if q == nil || err != api.OK {
		t.Fatalf("Load of %d writes and %d returns %t, %d", len(l), next, q != nil, err)
	}
	b := both{q, refer(l, next)}
	b.check(t, "Load")
	return b
}

func (b both) check(t *testing.T, what string) {
	t.Helper()
	b.r.check(t, what, b.q)
}

// push and pop do the same to both, and check what was answered.
func (b both) push(t *testing.T, w api.Write) api.Errno {
	t.Helper()
	n, err := b.q.Push(w)
	if want, no := b.r.push(w); n != want || err != no {
		t.Fatalf("Push(%v) returns %d, %d; not %d, %d", w, n, err, want, no)
	}
	return err
}

func (b both) pop(t *testing.T) (api.Write, bool) {
	t.Helper()
	w, there := b.q.Pop()
	if want, is := b.r.pop(); w != want || there != is {
		t.Fatalf("Pop returns %v, %t; not %v, %t", w, there, want, is)
	}
	return w, there
}

// dice yields numbers in no order to speak of, the same ones each time.
type dice uint32

func (d *dice) roll(n int) int {
	*d = *d*1664525 + 1013904223
	return int(*d>>16) % n
}

// addr returns one of few addresses, so that the same one comes again.
func (d *dice) addr() uint32 {
	if d.roll(4) > 0 {
		return uint32(d.roll(3))
	}
	l := edges()
	return l[d.roll(len(l))]
}

// key returns a key that is zero now and then.
func (d *dice) key() api.Key {
	return api.Key{Sum: api.Sum{0: byte(d.roll(2)), 31: byte(d.roll(2))}, N: uint32(d.roll(2))}
}

// write returns a write; one in some 25 is not valid.
func (d *dice) write() api.Write {
	w := api.Write{Addr: d.addr(), Seq: uint64(d.roll(50)), Trim: d.roll(3) == 0}
	if !w.Trim || d.roll(8) == 0 {
		w.Key = d.key()
	}
	return w
}

// writes returns n valid writes with increasing numbers, and a next one.
func (d *dice) writes(n int) ([]api.Write, uint64) {
	l := make([]api.Write, n)
	seq := uint64(0)
	for i := range l {
		w := d.write()
		if w.Trim {
			w.Key = api.Key{}
		}
		seq += d.gap()
		w.Seq = seq
		l[i] = w
	}
	return l, seq + d.gap()
}

// gap returns by how much the next number is greater: 1 most of the time.
func (d *dice) gap() uint64 {
	switch d.roll(8) {
	case 0:
		return uint64(2 + d.roll(5))
	case 1:
		return 1 << d.roll(50)
	default:
		return 1
	}
}

// step makes a call that the dice choose.
func (b both) step(t *testing.T, d *dice) {
	t.Helper()
	if d.roll(9) < 5 {
		b.push(t, d.write())
	} else {
		b.pop(t)
	}
}
