package back_test

import (
	"bytes"
	"fmt"
	"math"
	"slices"
	"testing"

	"pumice/api"
	"pumice/back"
)

// What the document names: the bytes of a block, and the most blocks.
const (
	blockSize = 256
	maxBlocks = 4096
)

// all are the bits of a crash in which no write is lost.
const all = math.MaxUint64

// filled returns a block that has one byte everywhere.
func filled(c byte) []byte {
	return bytes.Repeat([]byte{c}, blockSize)
}

// striped returns a block; two of them with numbers from 0 to 255 differ in each byte.
func striped(n int) []byte {
	b := make([]byte, blockSize)
	for i := range b {
		b[i] = byte(n + 3*i)
	}
	return b
}

// outside returns numbers that are none of 0 to n - 1.
func outside(n int) []int {
	return []int{math.MinInt, math.MinInt32, -4096, -256, -2, -1, n, n + 1, n + 256, n + 4096, math.MaxInt32, math.MaxInt}
}

func create(t *testing.T, n int) *back.Disk {
	t.Helper()
	d, err := back.New(n)
	if d == nil || err != api.OK {
		t.Fatalf("New(%d) returns %v, %d", n, d, err)
	}
	return d
}

// answers checks what calls returned, in order.
func answers(t *testing.T, got []api.Errno, want ...api.Errno) {
	t.Helper()
	if !slices.Equal(got, want) {
		t.Errorf("answers are %d, not %d", got, want)
	}
}

// must checks that operations returned OK.
func must(t *testing.T, got ...api.Errno) {
	t.Helper()
	answers(t, got, make([]api.Errno, len(got))...)
}

func checkBlock(t *testing.T, d *back.Disk, at int, want []byte) {
	t.Helper()
	if b, err := d.Read(at); !bytes.Equal(b, want) || err != api.OK {
		t.Errorf("block %d is %v, %d, not %v", at, b, err, want)
	}
}

// checkBlocks checks the first blocks.
func checkBlocks(t *testing.T, d *back.Disk, want ...[]byte) {
	t.Helper()
	for at, b := range want {
		checkBlock(t, d, at, b)
	}
}

func checkPower(t *testing.T, d *back.Disk, dead bool, done int) {
	t.Helper()
	if d.Dead() != dead || d.Done() != done {
		t.Errorf("dead: %t, done: %d; not %t, %d", d.Dead(), d.Done(), dead, done)
	}
}

// P8.1: New

func TestNew(t *testing.T) {
	for _, n := range []int{0, 1, 2, 3, 10, 64, 65, 256, 4095, 4096} {
		d := create(t, n)
		if d.Blocks() != n {
			t.Errorf("New(%d) has %d blocks", n, d.Blocks())
		}
		checkPower(t, d, false, 0)
		for at := range n {
			checkBlock(t, d, at, filled(0))
		}
	}
}

func TestNewRefuses(t *testing.T) {
	for _, n := range outside(maxBlocks + 1) {
		if d, err := back.New(n); d != nil || err != api.ErrArg {
			t.Errorf("New(%d) returns %v, %d", n, d, err)
		}
	}
}

func TestNewDiskIsSafe(t *testing.T) {
	for _, there := range []uint64{0, 1, all} {
		x := pair(t, 3)
		x.check(t, "new")
		x.crash(t, there)
	}
}

func TestPowerOfANewDiskStaysOn(t *testing.T) {
	d := create(t, 1)
	for range 1000 {
		must(t, d.Write(0, filled(1)), d.Barrier())
	}
	checkPower(t, d, false, 2000)
}

func TestDisksAreIndependent(t *testing.T) {
	x, other := pair(t, 2), pair(t, 2)
	must(t, x.write(t, 0, striped(1)), x.barrier(t), x.write(t, 1, striped(2)))
	other.check(t, "the other")
	x.cut(t, 0)
	answers(t, []api.Errno{x.barrier(t)}, api.ErrDead)
	other.check(t, "the other")
	must(t, other.write(t, 0, striped(3)))
	x.crash(t, 1)
	other.check(t, "the other")
}

func TestDiskWithoutBlocks(t *testing.T) {
	x := pair(t, 0)
	answers(t, []api.Errno{x.write(t, 0, filled(1)), x.write(t, -1, filled(1)), x.barrier(t)}, api.ErrArg, api.ErrArg, api.OK)
	x.crash(t, 1)
	x.copy().check(t, "copy")
	x.cut(t, 0)
	answers(t, []api.Errno{x.barrier(t)}, api.ErrDead)
}

// P8.1: Write

func TestWriteOfEachBlock(t *testing.T) {
	x := pair(t, 9)
	for at := range 9 {
		must(t, x.write(t, at, striped(at+1)))
	}
	checkBlock(t, x.d, 5, striped(6))
	for at := range 9 {
		must(t, x.write(t, 8-at, striped(at+101)))
	}
	checkBlock(t, x.d, 5, striped(104))
}

func TestWriteOfEachByte(t *testing.T) {
	for c := range 256 {
		d := create(t, 2)
		must(t, d.Write(1, filled(byte(c))))
		checkBlocks(t, d, filled(0), filled(byte(c)))
	}
}

func TestWriteOfABlockAgain(t *testing.T) {
	x := pair(t, 2)
	for _, b := range [][]byte{striped(1), striped(2), striped(2), filled(0), filled(255), striped(1)} {
		must(t, x.write(t, 1, b))
		checkBlocks(t, x.d, filled(0), b)
	}
	must(t, x.barrier(t), x.write(t, 1, striped(5)))
	checkBlocks(t, x.d, filled(0), striped(5))
}

func TestTheGreatestDisk(t *testing.T) {
	d := create(t, maxBlocks)
	for at := range maxBlocks {
		must(t, d.Write(at, striped(7*at%251)))
	}
	for at := range maxBlocks {
		checkBlock(t, d, at, striped(7*at%251))
	}
	checkPower(t, d, false, maxBlocks)
	must(t, d.Barrier(), d.Write(maxBlocks-1, striped(252)), d.Write(0, striped(253)))
	d.Crash(1)
	checkBlock(t, d, maxBlocks-1, striped(252))
	checkBlock(t, d, 0, striped(0))
	answers(t, []api.Errno{d.Write(maxBlocks, striped(1))}, api.ErrArg)
}

func TestWriteOfBlocksThatDoNotExist(t *testing.T) {
	x := pair(t, 3)
	for _, at := range outside(3) {
		for _, b := range [][]byte{striped(1), filled(0), nil, striped(1)[1:], append(striped(1), 1)} {
			answers(t, []api.Errno{x.write(t, at, b)}, api.ErrArg)
		}
	}
	checkPower(t, x.d, false, 0)
	must(t, x.write(t, 0, striped(1)), x.write(t, 2, striped(2)))
	x.crash(t, all)
	checkBlocks(t, x.d, striped(1), filled(0), striped(2))
}

func TestWriteOfTooFewOrTooManyBytes(t *testing.T) {
	x := pair(t, 1)
	for _, n := range []int{0, 1, 2, 127, 128, 129, 254, 255, 257, 258, 384, 511, 512, 513, 70000} {
		answers(t, []api.Errno{x.write(t, 0, bytes.Repeat([]byte{1}, n))}, api.ErrArg)
	}
	answers(t, []api.Errno{x.write(t, 0, nil), x.write(t, 0, make([]byte, 255, 256)), x.write(t, 0, make([]byte, 0, 256))}, api.ErrArg, api.ErrArg, api.ErrArg)
	checkPower(t, x.d, false, 0)
	x.crash(t, all)
	checkBlocks(t, x.d, filled(0))
	must(t, x.write(t, 0, striped(1)))
}

func TestWhichErrorOfWriteComesFirst(t *testing.T) {
	x := pair(t, 2)
	x.cut(t, 0)
	// The power is to go off: what may not be comes before that, and the power stays on.
	answers(t, []api.Errno{x.write(t, 2, striped(1)), x.write(t, -1, striped(1)), x.write(t, 0, nil), x.write(t, 0, striped(1)[1:]), x.write(t, 0, append(striped(1), 1))}, api.ErrArg, api.ErrArg, api.ErrArg, api.ErrArg, api.ErrArg)
	checkPower(t, x.d, false, 0)
	answers(t, []api.Errno{x.write(t, 0, striped(1))}, api.ErrDead)
	checkPower(t, x.d, true, 0)
	// It is off.
	answers(t, []api.Errno{x.write(t, 2, striped(1)), x.write(t, -1, striped(1)), x.write(t, 0, nil), x.write(t, 0, striped(1)[1:]), x.write(t, 0, append(striped(1), 1)), x.write(t, 0, striped(1))}, api.ErrArg, api.ErrArg, api.ErrArg, api.ErrArg, api.ErrArg, api.ErrDead)
}

// P8.1: Barrier

func TestBarrierMakesAllWritesSafe(t *testing.T) {
	for _, there := range []uint64{0, 1, 2, all} {
		x := pair(t, 3)
		must(t, x.write(t, 0, striped(1)), x.write(t, 2, striped(2)), x.write(t, 0, striped(3)), x.barrier(t))
		checkBlocks(t, x.d, striped(3), filled(0), striped(2))
		x.crash(t, there)
		checkBlocks(t, x.d, striped(3), filled(0), striped(2))
	}
}

func TestBarrierMakesManyWritesSafe(t *testing.T) {
	x := pair(t, 5)
	for i := range 200 {
		must(t, x.write(t, i%5, striped(i)))
	}
	must(t, x.barrier(t))
	x.crash(t, 0)
	checkBlocks(t, x.d, striped(195), striped(196), striped(197), striped(198), striped(199))
}

func TestBarrierWithNothingToMakeSafe(t *testing.T) {
	x := pair(t, 1)
	must(t, x.barrier(t), x.barrier(t), x.write(t, 0, striped(1)), x.barrier(t), x.barrier(t))
	x.crash(t, 0)
	checkBlocks(t, x.d, striped(1))
}

func TestWhatIsWrittenBehindABarrierIsNotSafe(t *testing.T) {
	x := pair(t, 3)
	must(t, x.write(t, 0, striped(1)), x.barrier(t), x.write(t, 1, striped(2)), x.write(t, 0, striped(3)))
	x.crash(t, 0)
	checkBlocks(t, x.d, striped(1), filled(0), filled(0))
	must(t, x.write(t, 1, striped(4)), x.barrier(t), x.write(t, 1, filled(0)))
	x.crash(t, 0)
	checkBlocks(t, x.d, striped(1), striped(4), filled(0))
}

func TestABarrierThatIsRefusedMakesNothingSafe(t *testing.T) {
	x := pair(t, 2)
	must(t, x.write(t, 0, striped(1)))
	x.cut(t, 0)
	answers(t, []api.Errno{x.barrier(t), x.barrier(t)}, api.ErrDead, api.ErrDead)
	x.crash(t, 0)
	checkBlocks(t, x.d, filled(0), filled(0))
}

// P8.1: Read, Blocks, Dead, Done

func TestReadOfBlocksThatDoNotExist(t *testing.T) {
	for _, n := range []int{0, 1, 3, maxBlocks} {
		d := create(t, n)
		for range 2 {
			for _, at := range outside(n) {
				if b, err := d.Read(at); len(b) != 0 || err != api.ErrArg {
					t.Errorf("Read(%d) of %d returns %v, %d", at, n, b, err)
				}
			}
			// ErrArg comes before ErrDead.
			d.Cut(0)
			d.Barrier()
		}
	}
}

func TestReadWithThePowerOff(t *testing.T) {
	d := create(t, 3)
	must(t, d.Write(1, striped(1)), d.Barrier(), d.Write(2, striped(2)))
	d.Cut(0)
	checkBlocks(t, d, filled(0), striped(1), striped(2))
	d.Barrier()
	for at := range 3 {
		if b, err := d.Read(at); len(b) != 0 || err != api.ErrDead {
			t.Errorf("Read(%d) returns %v, %d", at, b, err)
		}
	}
	d.Crash(1)
	checkBlocks(t, d, filled(0), striped(1), striped(2))
}

func TestReadChangesNothing(t *testing.T) {
	x := pair(t, 2)
	must(t, x.write(t, 0, striped(1)))
	x.cut(t, 1)
	for range 5 {
		x.check(t, "read")
	}
	answers(t, []api.Errno{x.write(t, 1, striped(2)), x.write(t, 1, striped(3))}, api.OK, api.ErrDead)
	x.crash(t, 2)
	checkBlocks(t, x.d, filled(0), striped(2))
}

func TestBlocksStay(t *testing.T) {
	x := pair(t, 5)
	check := func() {
		t.Helper()
		if n := x.d.Blocks(); n != 5 {
			t.Errorf("%d blocks", n)
		}
	}
	must(t, x.write(t, 4, striped(1)), x.barrier(t), x.write(t, 4, striped(1)))
	check()
	x.cut(t, 0)
	x.write(t, 0, striped(1))
	check()
	x.crash(t, 0)
	check()
}

func TestDone(t *testing.T) {
	d := create(t, 2)
	calls := []struct {
		err, want api.Errno
		done      int
	}{
		{d.Write(0, striped(1)), api.OK, d.Done()},
		{d.Write(0, striped(1)), api.OK, d.Done()},
		{d.Write(2, striped(1)), api.ErrArg, d.Done()},
		{d.Write(-1, striped(1)), api.ErrArg, d.Done()},
		{d.Write(1, nil), api.ErrArg, d.Done()},
		{d.Barrier(), api.OK, d.Done()},
		{d.Barrier(), api.OK, d.Done()},
		{d.Write(1, filled(0)), api.OK, d.Done()},
	}
	for i, done := range []int{1, 2, 2, 2, 2, 3, 4, 5} {
		if calls[i].err != calls[i].want || calls[i].done != done {
			t.Errorf("call %d returns %d, and Done %d; not %d, %d", i, calls[i].err, calls[i].done, calls[i].want, done)
		}
	}
	d.Read(0)
	d.Copy()
	d.Cut(0)
	checkPower(t, d, false, 5)
	answers(t, []api.Errno{d.Barrier(), d.Write(0, striped(1)), d.Write(2, striped(1))}, api.ErrDead, api.ErrDead, api.ErrArg)
	checkPower(t, d, true, 5)
	// Writes that returned OK count, though a crash has lost them.
	d.Crash(0)
	checkPower(t, d, false, 5)
	must(t, d.Barrier())
	checkPower(t, d, false, 6)
}

// P8.2: Cut

// operations are one of each kind, which nothing but the power refuses.
func operations() []func(d *back.Disk) api.Errno {
	return []func(d *back.Disk) api.Errno{
		func(d *back.Disk) api.Errno { return d.Write(1, striped(1)) },
		func(d *back.Disk) api.Errno { return d.Barrier() },
	}
}

func TestCutAheadOfEachOperation(t *testing.T) {
	for _, operation := range operations() {
		d := create(t, 2)
		d.Cut(0)
		checkPower(t, d, false, 0)
		answers(t, []api.Errno{operation(d)}, api.ErrDead)
		checkPower(t, d, true, 0)
		for _, other := range operations() {
			answers(t, []api.Errno{other(d)}, api.ErrDead)
		}
		checkPower(t, d, true, 0)
	}
}

func TestCutBehindSoManyOperations(t *testing.T) {
	for n := range 40 {
		for k := range 2 {
			d := create(t, 2)
			must(t, d.Barrier(), d.Write(0, striped(1)))
			d.Cut(n)
			for i := range n {
				must(t, operations()[(i+k)%2](d))
				checkPower(t, d, false, 2+i+1)
			}
			answers(t, []api.Errno{operations()[k](d)}, api.ErrDead)
			checkPower(t, d, true, 2+n)
		}
	}
}

func TestOperationsThatAreRefusedDoNotCountForCut(t *testing.T) {
	for n := range 4 {
		d := create(t, 1)
		d.Cut(n)
		refused := func() {
			t.Helper()
			answers(t, []api.Errno{d.Write(1, striped(1)), d.Write(-1, striped(1)), d.Write(0, nil), d.Write(0, striped(1)[1:]), d.Write(0, append(striped(1), 1))}, api.ErrArg, api.ErrArg, api.ErrArg, api.ErrArg, api.ErrArg)
			checkPower(t, d, false, d.Done())
		}
		refused()
		for range n {
			must(t, d.Write(0, striped(1)))
			refused()
		}
		answers(t, []api.Errno{d.Write(0, striped(1))}, api.ErrDead)
		checkPower(t, d, true, n)
	}
}

func TestOperationsAheadOfCutDoNotCount(t *testing.T) {
	d := create(t, 1)
	must(t, d.Write(0, striped(1)), d.Write(0, striped(2)), d.Barrier())
	d.Cut(1)
	answers(t, []api.Errno{d.Write(0, striped(3)), d.Write(0, striped(4))}, api.OK, api.ErrDead)
}

func TestALaterCutHolds(t *testing.T) {
	for _, first := range []int{-1, 0, 1, 2, 7, math.MaxInt} {
		for then := range 5 {
			d := create(t, 1)
			d.Cut(first)
			d.Cut(then)
			for range then {
				must(t, d.Barrier())
			}
			answers(t, []api.Errno{d.Barrier()}, api.ErrDead)
		}
	}
	d := create(t, 1)
	d.Cut(2)
	must(t, d.Barrier(), d.Barrier())
	d.Cut(2)
	answers(t, []api.Errno{d.Barrier(), d.Barrier(), d.Barrier()}, api.OK, api.OK, api.ErrDead)
}

func TestCutWithANegativeNumber(t *testing.T) {
	for _, after := range []int{-1, -2, -128, math.MinInt32, math.MinInt} {
		d := create(t, 1)
		for first := range 3 {
			d.Cut(first)
			d.Cut(after)
			for range 10 {
				must(t, d.Barrier(), d.Write(0, striped(1)))
			}
		}
		checkPower(t, d, false, 60)
	}
}

func TestCutBehindVeryManyOperations(t *testing.T) {
	for _, after := range []int{1000, math.MaxInt32, math.MaxInt} {
		d := create(t, 1)
		d.Cut(after)
		for range 1000 {
			must(t, d.Barrier())
		}
		checkPower(t, d, false, 1000)
	}
}

func TestCutWithThePowerOffDoesNothing(t *testing.T) {
	for _, after := range []int{-1, 0, 1, 5, math.MaxInt, math.MinInt} {
		d := create(t, 1)
		d.Cut(0)
		d.Barrier()
		d.Cut(after)
		answers(t, []api.Errno{d.Barrier(), d.Write(0, striped(1))}, api.ErrDead, api.ErrDead)
		checkPower(t, d, true, 0)
		d.Crash(0)
		for range 10 {
			must(t, d.Barrier())
		}
	}
}

func TestOperationsRefusedByThePowerAreNotDone(t *testing.T) {
	for _, after := range []int{0, 1, 2} {
		x := pair(t, 3)
		must(t, x.write(t, 0, striped(1)), x.barrier(t))
		x.cut(t, after)
		for range after {
			must(t, x.write(t, 2, striped(9)))
		}
		answers(t, []api.Errno{x.write(t, 1, striped(2)), x.write(t, 0, striped(3)), x.barrier(t), x.write(t, 1, striped(4))}, api.ErrDead, api.ErrDead, api.ErrDead, api.ErrDead)
		x.crash(t, all)
		checkBlocks(t, x.d, striped(1), filled(0))
	}
}

// P8.2: Crash

func TestCrashWithNoBitsOrAllOfThem(t *testing.T) {
	x := pair(t, 3)
	must(t, x.write(t, 0, striped(1)), x.barrier(t), x.write(t, 1, striped(2)), x.write(t, 0, striped(3)))
	y := x.copy()
	x.crash(t, 0)
	checkBlocks(t, x.d, striped(1), filled(0), filled(0))
	y.crash(t, all)
	checkBlocks(t, y.d, striped(3), striped(2), filled(0))
}

func TestEachWriteHasItsBit(t *testing.T) {
	for i := range 64 {
		x := pair(t, 64)
		for at := range 64 {
			must(t, x.d.Write(at, striped(at+1)), x.r.write(at, striped(at+1)))
		}
		y := x.copy()
		x.crash(t, 1<<i)
		y.crash(t, ^uint64(1<<i))
		for at := range 64 {
			one, others := filled(0), striped(at+1)
			if at == i {
				one, others = others, one
			}
			checkBlock(t, x.d, at, one)
			checkBlock(t, y.d, at, others)
		}
	}
}

func TestMoreThan64Writes(t *testing.T) {
	for _, bit := range []int{0, 1, 5, 31, 32, 62, 63} {
		x := pair(t, 200)
		for at := range 200 {
			must(t, x.d.Write(at, striped(at+1)), x.r.write(at, striped(at+1)))
		}
		x.crash(t, 1<<bit)
		for at := range 200 {
			want := filled(0)
			if at%64 == bit {
				want = striped(at + 1)
			}
			checkBlock(t, x.d, at, want)
		}
	}
}

func TestMoreThan64WritesOfOneBlock(t *testing.T) {
	for _, c := range []struct {
		writes int
		there  uint64
		want   []byte
	}{
		{64, 1, striped(1)},
		{65, 1, striped(65)},
		{66, 1, striped(65)},
		{66, 2, striped(66)},
		{65, 2, striped(2)},
		{128, 1 << 63, striped(128)},
		{127, 1 << 63, striped(64)},
		{129, 1<<63 | 1, striped(129)},
		{129, 1 << 62, striped(127)},
		{63, 1 << 63, filled(0)},
		{200, all, striped(200)},
		{200, 0, filled(0)},
	} {
		x := pair(t, 1)
		for i := range c.writes {
			must(t, x.write(t, 0, striped(i+1)))
		}
		x.crash(t, c.there)
		checkBlocks(t, x.d, c.want)
	}
}

func TestSeveralWritesOfOneBlockInTheirOrder(t *testing.T) {
	was, a, b, c := striped(1), striped(2), striped(3), striped(4)
	for _, x := range []struct {
		there uint64
		want  []byte
	}{{0, was}, {1, a}, {2, b}, {3, b}, {4, c}, {5, c}, {6, c}, {7, c}, {8, was}, {9, a}, {^uint64(4), b}, {^uint64(6), a}, {^uint64(7), was}} {
		d := pair(t, 1)
		must(t, d.write(t, 0, was), d.barrier(t), d.write(t, 0, a), d.write(t, 0, b), d.write(t, 0, c))
		d.crash(t, x.there)
		checkBlocks(t, d.d, x.want)
	}
}

func TestWritesOfSeveralBlocksInTheirOrder(t *testing.T) {
	was, a, b, c, d := striped(1), striped(2), striped(3), striped(4), striped(5)
	for _, x := range []struct {
		there uint64
		want  [2][]byte
	}{
		{0b0000, [2][]byte{was, filled(0)}},
		{0b0001, [2][]byte{a, filled(0)}},
		{0b0010, [2][]byte{was, b}},
		{0b0100, [2][]byte{c, filled(0)}},
		{0b0101, [2][]byte{c, filled(0)}},
		{0b1000, [2][]byte{was, d}},
		{0b1011, [2][]byte{a, d}},
		{0b0111, [2][]byte{c, b}},
		{0b1111, [2][]byte{c, d}},
	} {
		y := pair(t, 2)
		must(t, y.write(t, 0, was), y.barrier(t), y.write(t, 0, a), y.write(t, 1, b), y.write(t, 0, c), y.write(t, 1, d))
		y.crash(t, x.there)
		checkBlocks(t, y.d, x.want[0], x.want[1])
	}
}

func TestOnlyWritesThatAreDoneAndNotSafeHaveABit(t *testing.T) {
	x := pair(t, 4)
	must(t, x.write(t, 0, striped(1)), x.write(t, 1, striped(2)), x.barrier(t), x.barrier(t))
	answers(t, []api.Errno{x.write(t, 4, striped(9)), x.write(t, 0, nil)}, api.ErrArg, api.ErrArg)
	must(t, x.write(t, 2, striped(3)))
	answers(t, []api.Errno{x.write(t, -1, striped(9))}, api.ErrArg)
	must(t, x.write(t, 3, striped(4)), x.write(t, 0, striped(5)))
	x.cut(t, 0)
	answers(t, []api.Errno{x.write(t, 1, striped(6)), x.barrier(t)}, api.ErrDead, api.ErrDead)
	y := x.copy()
	x.crash(t, 0b101)
	checkBlocks(t, x.d, striped(5), striped(2), striped(3), filled(0))
	y.crash(t, 0b1010)
	checkBlocks(t, y.d, striped(1), striped(2), filled(0), striped(4))
}

func TestCrashWithThePowerOff(t *testing.T) {
	x := pair(t, 3)
	must(t, x.write(t, 0, striped(1)), x.barrier(t))
	x.cut(t, 2)
	answers(t, []api.Errno{x.write(t, 1, striped(2)), x.write(t, 2, striped(3)), x.write(t, 0, striped(4))}, api.OK, api.OK, api.ErrDead)
	x.crash(t, 2)
	checkPower(t, x.d, false, 4)
	checkBlocks(t, x.d, striped(1), filled(0), striped(3))
}

func TestCrashWithThePowerAboutToGoOff(t *testing.T) {
	x := pair(t, 2)
	must(t, x.write(t, 0, striped(1)), x.write(t, 1, striped(2)))
	x.cut(t, 0)
	x.crash(t, 2)
	checkBlocks(t, x.d, filled(0), striped(2))
	must(t, x.write(t, 0, striped(3)), x.barrier(t))
}

func TestThePowerStaysOnBehindACrash(t *testing.T) {
	for _, after := range []int{0, 1, 2, 3} {
		d := create(t, 1)
		d.Cut(after)
		for range min(after, 2) {
			must(t, d.Barrier())
		}
		d.Crash(all)
		for range 10 {
			must(t, d.Barrier(), d.Write(0, striped(1)))
		}
		d.Cut(1)
		answers(t, []api.Errno{d.Barrier(), d.Barrier()}, api.OK, api.ErrDead)
	}
}

func TestEverythingIsSafeBehindACrash(t *testing.T) {
	x := pair(t, 3)
	must(t, x.write(t, 0, striped(1)), x.write(t, 1, striped(2)), x.write(t, 2, striped(3)))
	x.crash(t, 5)
	for _, there := range []uint64{0, all, 1, 2} {
		x.crash(t, there)
		checkBlocks(t, x.d, striped(1), filled(0), striped(3))
	}
}

func TestSeveralCrashes(t *testing.T) {
	x := pair(t, 2)
	must(t, x.write(t, 0, striped(1)))
	x.crash(t, 1)
	must(t, x.write(t, 0, striped(2)), x.write(t, 1, striped(3)))
	x.crash(t, 2)
	checkBlocks(t, x.d, striped(1), striped(3))
	// Numbers of writes begin at 0 behind each crash.
	must(t, x.write(t, 1, striped(4)))
	x.cut(t, 0)
	answers(t, []api.Errno{x.write(t, 0, striped(5))}, api.ErrDead)
	x.crash(t, 1)
	checkBlocks(t, x.d, striped(1), striped(4))
	must(t, x.write(t, 0, striped(6)), x.barrier(t), x.write(t, 0, striped(7)))
	x.crash(t, all-1)
	checkBlocks(t, x.d, striped(6), striped(4))
}

// P8.3

// used returns a disk with things of all kinds: safe and not, with the power to go off.
func used(t *testing.T) both {
	t.Helper()
	x := pair(t, 4)
	must(t, x.write(t, 0, striped(1)), x.write(t, 1, striped(2)), x.barrier(t))
	must(t, x.write(t, 2, striped(3)), x.write(t, 1, striped(4)))
	x.cut(t, 3)
	must(t, x.write(t, 0, striped(5)))
	return x
}

func TestCopyIsTheSame(t *testing.T) {
	x := used(t)
	c := x.copy()
	c.check(t, "copy")
	// When the power goes off is the same, too.
	for _, y := range []both{x, c} {
		answers(t, []api.Errno{y.barrier(t), y.write(t, 3, striped(6)), y.write(t, 3, striped(7))}, api.OK, api.OK, api.ErrDead)
	}
	c = x.copy()
	checkPower(t, c.d, true, x.r.done)
	for _, y := range []both{x, c} {
		y.crash(t, 1)
		checkBlocks(t, y.d, striped(5), striped(4), striped(3), striped(6))
		must(t, y.write(t, 0, striped(8)), y.write(t, 0, striped(9)))
	}
	// So is what is not safe.
	x = used(t)
	c = x.copy()
	for _, y := range []both{x, c} {
		y.crash(t, 0b110)
		checkBlocks(t, y.d, striped(5), striped(4), filled(0), filled(0))
	}
}

func TestCopyAndItsOriginalDoNotChangeEachOther(t *testing.T) {
	changes := []func(x both){
		func(x both) { x.write(t, 3, striped(7)) },
		func(x both) { x.write(t, 0, striped(8)); x.write(t, 2, striped(9)) },
		func(x both) { x.barrier(t) },
		func(x both) { x.cut(t, 0); x.barrier(t) },
		func(x both) { x.cut(t, -1) },
		func(x both) { x.crash(t, 0) },
		func(x both) { x.crash(t, all) },
		func(x both) { x.barrier(t); x.write(t, 3, striped(10)); x.crash(t, 1) },
	}
	for i, change := range changes {
		for _, whose := range []int{0, 1} {
			x := used(t)
			two := [2]both{x, x.copy()}
			change(two[whose])
			two[1-whose].check(t, fmt.Sprintf("change %d of %d", i, whose))
			// What is not safe is the other's own, too.
			must(t, two[1-whose].write(t, 3, striped(11)), two[1-whose].write(t, 0, striped(12)))
			two[whose].check(t, fmt.Sprintf("writes behind change %d of %d", i, whose))
			two[1-whose].crash(t, 0b01101)
			two[whose].crash(t, 0b10110)
			two[1-whose].check(t, fmt.Sprintf("crash behind change %d of %d", i, whose))
		}
	}
}

func TestWhatIsNotSafeIsTheCopysOwn(t *testing.T) {
	for many := range 40 {
		x := pair(t, 2)
		for i := range many {
			must(t, x.write(t, 0, striped(i+1)))
		}
		c := x.copy()
		must(t, x.write(t, 1, striped(100)), c.write(t, 1, striped(200)))
		for _, y := range []both{x, c} {
			y.crash(t, all)
		}
		checkBlock(t, x.d, 1, striped(100))
		checkBlock(t, c.d, 1, striped(200))
	}
}

func TestCopiesOfACopy(t *testing.T) {
	x := used(t)
	copies := []both{x, x.copy(), x.copy().copy()}
	for i, y := range copies {
		y.write(t, 3, striped(10+i))
	}
	for i, y := range copies {
		y.check(t, "copies")
		checkBlock(t, y.d, 3, striped(10+i))
		y.crash(t, 0b1000)
		checkBlocks(t, y.d, striped(1), striped(2), filled(0), striped(10+i))
	}
}

func TestNilDisk(t *testing.T) {
	var d *back.Disk
	for _, at := range []int{math.MinInt, -1, 0, 1, math.MaxInt} {
		for _, b := range [][]byte{nil, striped(1), make([]byte, 500)} {
			answers(t, []api.Errno{d.Write(at, b), d.Barrier()}, api.ErrNone, api.ErrNone)
		}
		if b, err := d.Read(at); len(b) != 0 || err != api.ErrNone {
			t.Errorf("Read returns %v, %d", b, err)
		}
		d.Cut(at)
		d.Crash(uint64(at))
		if d.Blocks() != 0 || d.Done() != 0 || d.Dead() || d.Copy() != nil {
			t.Errorf("%d blocks, %d done, dead: %t, a copy: %v", d.Blocks(), d.Done(), d.Dead(), d.Copy())
		}
	}
}

// P8.4

func TestABlockWithOneWriteIsAsWrittenOrAsBefore(t *testing.T) {
	var d dice
	for range 300 {
		x := create(t, 70)
		for at := range 70 {
			must(t, x.Write(at, striped(at)))
		}
		must(t, x.Barrier())
		there := d.bits()
		// The blocks are written from the last one to the first one, so that write number i is of block 69 - i.
		for i := range 70 {
			must(t, x.Write(69-i, striped(100+i)))
		}
		x.Crash(there)
		for i := range 70 {
			want := striped(69 - i)
			if there>>(i%64)%2 == 1 {
				want = striped(100 + i)
			}
			checkBlock(t, x, 69-i, want)
		}
	}
}

func TestBlocksThatAreNotWrittenStay(t *testing.T) {
	var d dice
	for range 200 {
		x := pair(t, 4)
		must(t, x.write(t, 0, striped(1)), x.write(t, 2, striped(2)), x.barrier(t))
		for range d.roll(90) {
			must(t, x.write(t, 1+2*d.roll(2), striped(d.roll(256))))
		}
		x.crash(t, d.bits())
		checkBlock(t, x.d, 0, striped(1))
		checkBlock(t, x.d, 2, striped(2))
	}
}

func TestExactlySoManyOperationsBehindCut(t *testing.T) {
	var d dice
	for n := range 200 {
		x := pair(t, 3)
		must(t, x.barrier(t))
		x.cut(t, n%20)
		for !x.d.Dead() {
			if d.roll(4) == 0 {
				x.barrier(t)
				continue
			}
			x.write(t, d.roll(5)-1, d.block())
		}
		checkPower(t, x.d, true, 1+n%20)
	}
}

func TestOperationsThatAreRefusedChangeNothing(t *testing.T) {
	for n := range 6 {
		x := used(t)
		plain := used(t)
		for range n {
			answers(t, []api.Errno{x.write(t, 4, striped(9)), x.write(t, -1, striped(9)), x.write(t, 3, nil)}, api.ErrArg, api.ErrArg, api.ErrArg)
		}
		for _, y := range []both{x, plain} {
			must(t, y.write(t, 3, striped(6)), y.write(t, 2, striped(7)))
		}
		for range n {
			answers(t, []api.Errno{x.write(t, 0, striped(9)), x.barrier(t), x.write(t, 4, striped(9))}, api.ErrDead, api.ErrDead, api.ErrArg)
		}
		x.crash(t, 0b11010)
		plain.crash(t, 0b11010)
		plain.r.check(t, "both", x.d)
	}
}

func TestAnyCalls(t *testing.T) {
	for i := range 300 {
		d := dice(i)
		x := pair(t, 1+i%5)
		for range 200 {
			x.step(t, &d)
			if d.roll(20) == 0 {
				c := x.copy()
				for range d.roll(9) {
					c.step(t, &d)
					x.check(t, "behind a call of its copy")
					x.step(t, &d)
					c.check(t, "copy")
				}
				if d.roll(2) == 0 {
					x = c
				}
			}
		}
	}
}

// The chapter's examples

func TestExamples(t *testing.T) {
	for there, want := range [][]byte{filled(0), striped(5)} {
		d := create(t, 2)
		must(t, d.Write(1, striped(5)))
		d.Crash(uint64(there))
		checkBlocks(t, d, filled(0), want)
	}
}

// Rules 3 to 6 of the document

// guarded returns the bytes as a part of a greater array, and that array.
func guarded(s []byte) (part, array []byte) {
	array = slices.Concat([]byte("<<<"), s, []byte(">>>>>>>>"))
	return array[3 : 3+len(s) : len(array)], array
}

func TestBytesHandedInAreNotChanged(t *testing.T) {
	for _, n := range []int{0, 100, 255, 256, 257} {
		d := create(t, 2)
		part, array := guarded(append(striped(1), 1)[:n])
		before := bytes.Clone(array)
		d.Write(0, part)
		d.Write(1, part)
		d.Crash(1)
		d.Write(1, part)
		d.Barrier()
		d.Write(0, filled(7))
		d.Write(1, filled(8))
		d.Crash(all)
		d.Cut(0)
		d.Write(0, part)
		if !bytes.Equal(array, before) {
			t.Errorf("%d bytes became %v", n, array)
		}
	}
}

func TestBytesBeyondTheLengthAreNotRead(t *testing.T) {
	d := create(t, 1)
	part, array := guarded(striped(1))
	answers(t, []api.Errno{d.Write(0, array[3:3+255]), d.Write(0, array[:0]), d.Write(0, part)}, api.ErrArg, api.ErrArg, api.OK)
	checkBlocks(t, d, striped(1))
}

func TestBytesHandedInAreNotKept(t *testing.T) {
	x := pair(t, 4)
	b := make([]byte, blockSize)
	for at := range 4 {
		copy(b, striped(at+1))
		must(t, x.write(t, at, b))
		clear(b)
		x.check(t, "with its bytes changed")
	}
	x.copy().check(t, "copy")
	x.crash(t, 0b0101)
	checkBlocks(t, x.d, striped(1), filled(0), striped(3), filled(0))
	copy(b, striped(9))
	must(t, x.write(t, 0, b), x.barrier(t))
	clear(b)
	x.check(t, "with its bytes changed")
	x.crash(t, 0)
	checkBlocks(t, x.d, striped(9))
}

func TestBlocksThatAreReadAreTheCallersOwn(t *testing.T) {
	x := pair(t, 3)
	must(t, x.write(t, 0, striped(1)), x.barrier(t), x.write(t, 1, striped(2)))
	spoil := func(b []byte) {
		for i := range b[:cap(b)] {
			b[:cap(b)][i] ^= 0xff
		}
	}
	for at := range 3 {
		first, _ := x.d.Read(at)
		second, _ := x.d.Read(at)
		want := bytes.Clone(second)
		spoil(first)
		if !bytes.Equal(second, want) {
			t.Errorf("two results of block %d share memory", at)
		}
		x.check(t, "with a result changed")
	}
	// Nor does a result change with the disk.
	b, _ := x.d.Read(1)
	must(t, x.write(t, 1, striped(3)))
	if !bytes.Equal(b, striped(2)) {
		t.Errorf("a result became %v", b)
	}
	spoil(b)
	x.crash(t, 0b01)
	checkBlocks(t, x.d, striped(1), striped(2), filled(0))
	b, _ = x.d.Read(1)
	spoil(b)
	x.crash(t, 0)
}

func TestSameCallsSameResults(t *testing.T) {
	play := func() (both, []api.Errno) {
		x := pair(t, 3)
		var d dice
		var l []api.Errno
		for range 400 {
			x.step(t, &d)
			l = append(l, x.write(t, 0, striped(1)))
		}
		return x, l
	}
	x, first := play()
	y, second := play()
	y.r.check(t, "the other", x.d)
	answers(t, first, second...)
}
