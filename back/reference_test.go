package back_test

import (
	"bytes"
	"slices"
	"testing"

	"pumice/api"
	"pumice/back"
)

// deed is a Write that was done.
type deed struct {
	at int
	b  []byte
}

// reference is a disk in a plain way: the writes that are safe, and those that were done since; what a block is follows from both each time.
type reference struct {
	blocks int
	safe   []deed // a block that none of these wrote is of bytes 0
	since  []deed
	done   int
	dead   bool
	cut    int // how many operations are done until the power goes off; -1 if it does not
}

func refer(n int) *reference {
	return &reference{blocks: n, cut: -1}
}

// block returns what a block became by the last write of it.
func (r *reference) block(at int) []byte {
	for _, d := range slices.Backward(slices.Concat(r.safe, r.since)) {
		if d.at == at {
			return d.b
		}
	}
	return filled(0)
}

// power counts an operation, unless the power is off or goes off before it.
func (r *reference) power() api.Errno {
	r.dead = r.dead || r.cut == 0
	if r.dead {
		return api.ErrDead
	}
	if r.cut > 0 {
		r.cut--
	}
	r.done++
	return api.OK
}

func (r *reference) write(at int, b []byte) api.Errno {
	if at < 0 || at >= r.blocks || len(b) != blockSize {
		return api.ErrArg
	}
	if err := r.power(); err != api.OK {
		return err
	}
	r.since = append(r.since, deed{at, bytes.Clone(b)})
	return api.OK
}

func (r *reference) barrier() api.Errno {
	if err := r.power(); err != api.OK {
		return err
	}
	r.safe, r.since = slices.Concat(r.safe, r.since), nil
	return api.OK
}

func (r *reference) read(at int) ([]byte, api.Errno) {
	if at < 0 || at >= r.blocks {
		return nil, api.ErrArg
	}
	if r.dead {
		return nil, api.ErrDead
	}
	return r.block(at), api.OK
}

func (r *reference) cutAfter(n int) {
	if !r.dead {
		r.cut = max(n, -1)
	}
}

func (r *reference) crash(there uint64) {
	power := uint64(1)
	for _, d := range r.since {
		if there/power%2 == 1 {
			r.safe = append(r.safe, d)
		}
		power *= 2
		if power == 0 {
			power = 1
		}
	}
	r.since, r.dead, r.cut = nil, false, -1
}

func (r *reference) copy() *reference {
	c := *r
	c.safe, c.since = slices.Clone(r.safe), slices.Clone(r.since)
	return &c
}

// check checks all that can be asked of a disk.
func (r *reference) check(t *testing.T, what string, d *back.Disk) {
	t.Helper()
	if d.Blocks() != r.blocks || d.Done() != r.done || d.Dead() != r.dead {
		t.Fatalf("%s: %d blocks, %d done, dead: %t; not %d, %d, %t", what, d.Blocks(), d.Done(), d.Dead(), r.blocks, r.done, r.dead)
	}
	for at := -1; at <= r.blocks; at++ {
		want, err := r.read(at)
		if b, e := d.Read(at); !bytes.Equal(b, want) || e != err {
			t.Fatalf("%s: Read(%d) is %v, %d, not %v, %d", what, at, b, e, want, err)
		}
	}
}

// both is a disk, and the reference that goes with it.
type both struct {
	d *back.Disk
	r *reference
}

func pair(t *testing.T, n int) both {
	t.Helper()
	return both{create(t, n), refer(n)}
}

func (x both) copy() both {
	return both{x.d.Copy(), x.r.copy()}
}

func (x both) check(t *testing.T, what string) {
	t.Helper()
	x.r.check(t, what, x.d)
}

// write, barrier, cut and crash do the same to both, and check what was answered and all that can be asked.
func (x both) write(t *testing.T, at int, b []byte) api.Errno {
	t.Helper()
	return x.compare(t, "Write", x.d.Write(at, b), x.r.write(at, b))
}

func (x both) barrier(t *testing.T) api.Errno {
	t.Helper()
	return x.compare(t, "Barrier", x.d.Barrier(), x.r.barrier())
}

func (x both) cut(t *testing.T, after int) {
	t.Helper()
	x.d.Cut(after)
	x.r.cutAfter(after)
	x.check(t, "behind Cut")
}

func (x both) crash(t *testing.T, there uint64) {
	t.Helper()
	x.d.Crash(there)
	x.r.crash(there)
	x.check(t, "behind Crash")
}

func (x both) compare(t *testing.T, what string, got, want api.Errno) api.Errno {
	t.Helper()
	if got != want {
		t.Fatalf("%s returns %d, not %d", what, got, want)
	}
	x.check(t, "behind "+what)
	return got
}

// dice yields numbers in no order to speak of, the same ones each time.
type dice uint32

func (d *dice) roll(n int) int {
	*d = *d*1664525 + 1013904223
	return int(*d>>16) % n
}

// bits returns 64 bits; now and then all of them, or none.
func (d *dice) bits() uint64 {
	switch d.roll(8) {
	case 0:
		return 0
	case 1:
		return all
	}
	var x uint64
	for range 8 {
		x = x<<8 | uint64(d.roll(256))
	}
	return x
}

// block returns the bytes of a block; now and then too few or too many.
func (d *dice) block() []byte {
	b := striped(d.roll(blockSize))
	if d.roll(10) == 0 {
		return append(b, b...)[:d.roll(2*blockSize)]
	}
	return b
}

// step makes a call that the dice choose.
func (x both) step(t *testing.T, d *dice) {
	t.Helper()
	switch d.roll(16) {
	case 0:
		x.barrier(t)
	case 1:
		x.crash(t, d.bits())
	case 2:
		x.cut(t, d.roll(24)-3)
	default:
		x.write(t, d.roll(x.r.blocks+2)-1, d.block())
	}
}
