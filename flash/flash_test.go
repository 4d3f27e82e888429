package flash_test

import (
	"bytes"
	"fmt"
	"math"
	"slices"
	"testing"

	"pumice/api"
	"pumice/flash"
)

// What the document names: the bytes of a page, and the most segments and pages.
const (
	pageSize = 128
	maxSegs  = 256
	maxPages = 64
)

// filled returns a page that has one byte everywhere.
func filled(c byte) []byte {
	return bytes.Repeat([]byte{c}, pageSize)
}

// striped returns a page; two of them with numbers from 0 to 99 differ in each byte, and none has a byte 255.
func striped(n int) []byte {
	b := make([]byte, pageSize)
	for i := range b {
		b[i] = byte((n + i) % 100)
	}
	return b
}

// torn returns the first n bytes of a page, at most, and the others of what it was.
func torn(n int, b, was []byte) []byte {
	n = min(n, len(b))
	return slices.Concat(b[:n], was[n:])
}

// outside returns numbers that are none of 0 to n - 1.
func outside(n int) []int {
	return []int{math.MinInt, math.MinInt32, -256, -2, -1, n, n + 1, n + 256, math.MaxInt32, math.MaxInt}
}

func create(t *testing.T, segs, pages int) *flash.Flash {
	t.Helper()
	f, err := flash.New(segs, pages)
	if f == nil || err != api.OK {
		t.Fatalf("New(%d, %d) returns %v, %d", segs, pages, f, err)
	}
	return f
}

// answers checks what calls returned, in order.
func answers(t *testing.T, got []api.Errno, want ...api.Errno) {
	t.Helper()
	if !slices.Equal(got, want) {
		t.Errorf("answers are %d, not %d", got, want)
	}
}

// must checks that operations returned OK.
func must(t *testing.T, got ...api.Errno) {
	t.Helper()
	answers(t, got, make([]api.Errno, len(got))...)
}

func checkPage(t *testing.T, f *flash.Flash, seg, page int, want []byte) {
	t.Helper()
	if b, err := f.Read(seg, page); !bytes.Equal(b, want) || err != api.OK {
		t.Errorf("page %d of segment %d is %v, %d, not %v", page, seg, b, err, want)
	}
}

// checkPages checks the first pages of the first segment.
func checkPages(t *testing.T, f *flash.Flash, want ...[]byte) {
	t.Helper()
	for page, b := range want {
		checkPage(t, f, 0, page, b)
	}
}

func checkPower(t *testing.T, f *flash.Flash, dead bool, done int) {
	t.Helper()
	if f.Dead() != dead || f.Done() != done {
		t.Errorf("dead: %t, done: %d; not %t, %d", f.Dead(), f.Done(), dead, done)
	}
}

// P7.1

func TestNew(t *testing.T) {
	for _, segs := range []int{0, 1, 2, 3, 20, 255, 256} {
		for _, pages := range []int{1, 2, 3, 8, 63, 64} {
			f := create(t, segs, pages)
			if f.Segs() != segs || f.Pages() != pages {
				t.Errorf("New(%d, %d) has %d segments of %d pages", segs, pages, f.Segs(), f.Pages())
			}
			checkPower(t, f, false, 0)
		}
	}
}

func TestNewRefuses(t *testing.T) {
	check := func(segs, pages int) {
		t.Helper()
		if f, err := flash.New(segs, pages); f != nil || err != api.ErrArg {
			t.Errorf("New(%d, %d) returns %v, %d", segs, pages, f, err)
		}
	}
	for _, segs := range outside(maxSegs + 1) {
		for _, pages := range []int{1, 2, maxPages, 0, segs} {
			check(segs, pages)
		}
	}
	for _, pages := range append(outside(maxPages+1), 0) {
		for _, segs := range []int{0, 1, 2, maxPages, maxSegs} {
			check(segs, pages)
		}
	}
}

func TestNewFlashIsErasedAndSafe(t *testing.T) {
	for _, segs := range []int{0, 1, 3, maxSegs} {
		x := pair(t, segs, 5)
		x.check(t, "new")
		x.crash(t, 128, 128, 128)
	}
}

func TestPowerOfANewFlashStaysOn(t *testing.T) {
	f := create(t, 1, 1)
	for range 1000 {
		must(t, f.Program(0, 0, filled(1)), f.Erase(0), f.Barrier())
	}
	checkPower(t, f, false, 3000)
}

func TestFlashesAreIndependent(t *testing.T) {
	x, other := pair(t, 2, 2), pair(t, 2, 2)
	must(t, x.program(t, 0, 0, striped(1)), x.erase(t, 1), x.barrier(t))
	x.cut(t, 0)
	x.erase(t, 0)
	other.check(t, "the other")
	must(t, other.erase(t, 0))
	x.crash(t)
	other.check(t, "the other")
}

func TestFlashWithoutSegments(t *testing.T) {
	x := pair(t, 0, 3)
	answers(t, []api.Errno{x.program(t, 0, 0, filled(1)), x.erase(t, 0), x.barrier(t)}, api.ErrArg, api.ErrArg, api.OK)
	x.crash(t, 1, 2)
	x.copy().check(t, "copy")
}

func TestProgramOfEachPage(t *testing.T) {
	x := pair(t, 4, 3)
	for seg := range 4 {
		for page := range 3 {
			must(t, x.program(t, seg, page, striped(10*seg+page)))
		}
	}
	checkPage(t, x.f, 2, 1, striped(21))
}

func TestPagesAreProgrammedInAnyOrder(t *testing.T) {
	x := pair(t, 2, 4)
	for _, page := range []int{3, 0, 2, 1} {
		must(t, x.program(t, 1, page, striped(page)))
	}
}

func TestProgramOfEachByte(t *testing.T) {
	for c := range 256 {
		f := create(t, 1, 2)
		must(t, f.Program(0, 1, filled(byte(c))))
		checkPages(t, f, filled(255), filled(byte(c)))
	}
}

func TestTheGreatestFlash(t *testing.T) {
	f := create(t, maxSegs, maxPages)
	for seg := range maxSegs {
		for page := range maxPages {
			must(t, f.Program(seg, page, striped((7*seg+page)%100)))
		}
	}
	for seg := range maxSegs {
		for page := range maxPages {
			checkPage(t, f, seg, page, striped((7*seg+page)%100))
		}
	}
	checkPower(t, f, false, maxSegs*maxPages)
	must(t, f.Barrier(), f.Erase(maxSegs-1))
	checkPage(t, f, maxSegs-1, maxPages-1, filled(255))
	f.Crash([]int{maxPages - 1})
	checkPage(t, f, maxSegs-1, maxPages-2, filled(255))
	checkPage(t, f, maxSegs-1, maxPages-1, striped((7*255+63)%100))
}

func TestProgramOfPagesThatDoNotExist(t *testing.T) {
	x := pair(t, 3, 2)
	for _, b := range [][]byte{striped(1), filled(255), nil, striped(1)[1:]} {
		for _, seg := range outside(3) {
			for _, page := range []int{0, 1, 2, -1} {
				answers(t, []api.Errno{x.program(t, seg, page, b)}, api.ErrArg)
			}
		}
		for _, page := range outside(2) {
			for _, seg := range []int{0, 1, 2, 3, -1} {
				answers(t, []api.Errno{x.program(t, seg, page, b)}, api.ErrArg)
			}
		}
	}
	checkPower(t, x.f, false, 0)
}

func TestProgramOfTooFewOrTooManyBytes(t *testing.T) {
	x := pair(t, 1, 1)
	for _, n := range []int{0, 1, 2, 64, 127, 129, 130, 255, 256, 384, 70000} {
		answers(t, []api.Errno{x.program(t, 0, 0, make([]byte, n))}, api.ErrArg)
		answers(t, []api.Errno{x.program(t, 0, 0, bytes.Repeat([]byte{255}, n))}, api.ErrArg)
	}
	answers(t, []api.Errno{x.program(t, 0, 0, nil), x.program(t, 0, 0, make([]byte, 127, 128)), x.program(t, 0, 0, make([]byte, 128))}, api.ErrArg, api.ErrArg, api.OK)
}

func TestProgramOfAPageTwice(t *testing.T) {
	x := pair(t, 2, 2)
	must(t, x.program(t, 0, 1, striped(1)))
	for _, b := range [][]byte{striped(1), striped(2), filled(255), filled(0)} {
		answers(t, []api.Errno{x.program(t, 0, 1, b)}, api.ErrWritten)
	}
	// Neither a Barrier nor a crash makes it an erased one, nor does an Erase of another segment.
	must(t, x.erase(t, 1), x.barrier(t))
	answers(t, []api.Errno{x.program(t, 0, 1, striped(2))}, api.ErrWritten)
	x.crash(t)
	answers(t, []api.Errno{x.program(t, 0, 1, striped(2))}, api.ErrWritten)
	must(t, x.erase(t, 0), x.program(t, 0, 1, striped(2)))
	answers(t, []api.Errno{x.program(t, 0, 1, striped(3))}, api.ErrWritten)
}

func TestProgramOfBytes255Only(t *testing.T) {
	x := pair(t, 1, 1)
	for range 3 {
		must(t, x.program(t, 0, 0, filled(255)))
	}
	checkPower(t, x.f, false, 3)
	must(t, x.program(t, 0, 0, striped(5)))
	answers(t, []api.Errno{x.program(t, 0, 0, filled(255))}, api.ErrWritten)
}

func TestAPageWithOneOtherByteIsNotErased(t *testing.T) {
	for i := range pageSize {
		for _, c := range []byte{0, 1, 127, 254} {
			f := create(t, 1, 2)
			b := filled(255)
			b[i] = c
			answers(t, []api.Errno{f.Program(0, 0, b), f.Program(0, 0, filled(1)), f.Program(0, 1, filled(1))}, api.OK, api.ErrWritten, api.OK)
			checkPages(t, f, b, filled(1))
		}
	}
}

func TestWhichErrorOfProgramComesFirst(t *testing.T) {
	x := pair(t, 1, 2)
	must(t, x.program(t, 0, 0, striped(1)))
	// The power is on: a page that does not exist, or too few bytes, come before a page that is not erased.
	answers(t, []api.Errno{x.program(t, 0, 0, nil), x.program(t, 0, 0, striped(1))}, api.ErrArg, api.ErrWritten)
	// It is to go off: a page that is not erased comes before that.
	x.cut(t, 0)
	answers(t, []api.Errno{x.program(t, 0, 2, striped(1)), x.program(t, 0, 0, nil), x.program(t, 0, 0, striped(1))}, api.ErrArg, api.ErrArg, api.ErrWritten)
	checkPower(t, x.f, false, 1)
	answers(t, []api.Errno{x.program(t, 0, 1, striped(1))}, api.ErrDead)
	// It is off: that comes before a page that is not erased.
	answers(t, []api.Errno{x.program(t, 0, 2, striped(1)), x.program(t, 0, 1, nil), x.program(t, 0, 0, nil), x.program(t, 0, 0, striped(1)), x.program(t, 0, 1, striped(1))}, api.ErrArg, api.ErrArg, api.ErrArg, api.ErrDead, api.ErrDead)
}

func TestWhichErrorOfEraseComesFirst(t *testing.T) {
	x := pair(t, 1, 1)
	x.cut(t, 0)
	answers(t, []api.Errno{x.erase(t, 1), x.erase(t, -1)}, api.ErrArg, api.ErrArg)
	checkPower(t, x.f, false, 0)
	answers(t, []api.Errno{x.erase(t, 0), x.erase(t, 0), x.erase(t, 1), x.erase(t, -1)}, api.ErrDead, api.ErrDead, api.ErrArg, api.ErrArg)
}

func TestErase(t *testing.T) {
	for seg := range 3 {
		x := pair(t, 3, 4)
		for i := range 12 {
			must(t, x.program(t, i/4, i%4, striped(i)))
		}
		must(t, x.erase(t, seg))
		for page := range 4 {
			must(t, x.program(t, seg, page, striped(20+page)))
		}
	}
}

func TestEraseOfAnErasedSegment(t *testing.T) {
	x := pair(t, 2, 2)
	must(t, x.erase(t, 1), x.erase(t, 1), x.program(t, 1, 1, striped(1)), x.erase(t, 1), x.erase(t, 1))
	checkPower(t, x.f, false, 5)
}

func TestEraseOfSegmentsThatDoNotExist(t *testing.T) {
	x := pair(t, 3, 2)
	for i := range 6 {
		must(t, x.program(t, i/2, i%2, striped(i)))
	}
	for _, seg := range outside(3) {
		answers(t, []api.Errno{x.erase(t, seg)}, api.ErrArg)
	}
	checkPower(t, x.f, false, 6)
}

func TestBarrierMakesEverythingSafe(t *testing.T) {
	x := pair(t, 3, 2)
	must(t, x.program(t, 0, 0, striped(1)), x.program(t, 1, 1, striped(2)), x.program(t, 2, 0, striped(3)), x.erase(t, 2), x.program(t, 2, 1, striped(4)))
	must(t, x.barrier(t))
	x.crash(t)
	checkPage(t, x.f, 0, 0, striped(1))
	checkPage(t, x.f, 1, 1, striped(2))
	checkPage(t, x.f, 2, 0, filled(255))
	checkPage(t, x.f, 2, 1, striped(4))
}

func TestBarrierWithNothingToMakeSafe(t *testing.T) {
	x := pair(t, 1, 1)
	must(t, x.barrier(t), x.barrier(t), x.program(t, 0, 0, striped(1)), x.barrier(t), x.barrier(t))
	x.crash(t)
	checkPages(t, x.f, striped(1))
}

func TestWhatIsDoneBehindABarrierIsNotSafe(t *testing.T) {
	x := pair(t, 1, 3)
	must(t, x.program(t, 0, 0, striped(1)), x.barrier(t), x.program(t, 0, 1, striped(2)))
	x.crash(t)
	checkPages(t, x.f, striped(1), filled(255), filled(255))
	must(t, x.program(t, 0, 1, striped(3)), x.barrier(t), x.erase(t, 0))
	x.crash(t)
	checkPages(t, x.f, striped(1), striped(3), filled(255))
}

func TestABarrierThatIsRefusedMakesNothingSafe(t *testing.T) {
	x := pair(t, 1, 2)
	must(t, x.program(t, 0, 0, striped(1)))
	x.cut(t, 0)
	answers(t, []api.Errno{x.barrier(t), x.barrier(t)}, api.ErrDead, api.ErrDead)
	x.crash(t)
	checkPages(t, x.f, filled(255), filled(255))
}

// P7.2

func TestReadOfPagesThatDoNotExist(t *testing.T) {
	f := create(t, 3, 2)
	check := func(seg, page int) {
		t.Helper()
		if b, err := f.Read(seg, page); len(b) != 0 || err != api.ErrArg {
			t.Errorf("Read(%d, %d) returns %v, %d", seg, page, b, err)
		}
	}
	for range 2 {
		for _, seg := range outside(3) {
			check(seg, 0)
			check(seg, 1)
			check(seg, seg)
		}
		for _, page := range outside(2) {
			check(0, page)
			check(2, page)
		}
		// ErrArg comes before ErrDead.
		f.Cut(0)
		f.Barrier()
	}
}

func TestReadWithThePowerOff(t *testing.T) {
	f := create(t, 2, 2)
	must(t, f.Program(1, 1, striped(1)))
	f.Cut(0)
	checkPage(t, f, 1, 1, striped(1))
	checkPage(t, f, 0, 0, filled(255))
	f.Barrier()
	for i := range 4 {
		if b, err := f.Read(i/2, i%2); len(b) != 0 || err != api.ErrDead {
			t.Errorf("Read returns %v, %d", b, err)
		}
	}
	f.Crash([]int{128})
	checkPage(t, f, 1, 1, striped(1))
}

func TestReadChangesNothing(t *testing.T) {
	x := pair(t, 2, 2)
	must(t, x.program(t, 0, 0, striped(1)))
	x.cut(t, 1)
	for range 5 {
		x.check(t, "read")
	}
	answers(t, []api.Errno{x.erase(t, 1), x.erase(t, 1)}, api.OK, api.ErrDead)
}

func TestSegsAndPagesStay(t *testing.T) {
	x := pair(t, 5, 7)
	must(t, x.program(t, 4, 6, striped(1)), x.erase(t, 4), x.barrier(t))
	x.cut(t, 0)
	x.erase(t, 0)
	if x.f.Segs() != 5 || x.f.Pages() != 7 {
		t.Errorf("%d segments of %d pages with the power off", x.f.Segs(), x.f.Pages())
	}
	x.crash(t)
	if x.f.Segs() != 5 || x.f.Pages() != 7 {
		t.Errorf("%d segments of %d pages behind a crash", x.f.Segs(), x.f.Pages())
	}
}

func TestWear(t *testing.T) {
	f := create(t, 4, 2)
	check := func(want ...int) {
		t.Helper()
		for seg, n := range want {
			if got := f.Wear(seg); got != n {
				t.Errorf("Wear(%d) is %d, not %d", seg, got, n)
			}
		}
		for _, seg := range outside(4) {
			if got := f.Wear(seg); got != 0 {
				t.Errorf("Wear(%d) is %d", seg, got)
			}
		}
	}
	check(0, 0, 0, 0)
	must(t, f.Erase(1), f.Erase(1), f.Erase(3), f.Program(2, 0, striped(1)), f.Barrier())
	check(0, 2, 0, 1)
	f.Erase(4)
	f.Erase(-1)
	f.Program(2, 0, striped(1))
	f.Cut(0)
	answers(t, []api.Errno{f.Erase(0), f.Erase(1), f.Erase(4)}, api.ErrDead, api.ErrDead, api.ErrArg)
	check(0, 2, 0, 1)
	f.Crash(nil)
	// An Erase that returned OK counts, though nothing of it was done in the end.
	must(t, f.Erase(0), f.Erase(3))
	check(1, 2, 0, 2)
	f.Crash(nil)
	check(1, 2, 0, 2)
}

func TestDone(t *testing.T) {
	f := create(t, 2, 2)
	calls := []struct {
		err, want api.Errno
		done      int
	}{
		{f.Program(0, 0, striped(1)), api.OK, f.Done()},
		{f.Program(0, 0, striped(1)), api.ErrWritten, f.Done()},
		{f.Program(0, 1, filled(255)), api.OK, f.Done()},
		{f.Program(0, 2, striped(1)), api.ErrArg, f.Done()},
		{f.Program(0, 1, nil), api.ErrArg, f.Done()},
		{f.Erase(1), api.OK, f.Done()},
		{f.Erase(2), api.ErrArg, f.Done()},
		{f.Barrier(), api.OK, f.Done()},
		{f.Barrier(), api.OK, f.Done()},
	}
	for i, done := range []int{1, 1, 2, 2, 2, 3, 3, 4, 5} {
		if calls[i].err != calls[i].want || calls[i].done != done {
			t.Errorf("call %d returns %d, and Done %d; not %d, %d", i, calls[i].err, calls[i].done, calls[i].want, done)
		}
	}
	f.Cut(0)
	checkPower(t, f, false, 5)
	answers(t, []api.Errno{f.Barrier(), f.Erase(0), f.Program(1, 0, striped(1))}, api.ErrDead, api.ErrDead, api.ErrDead)
	checkPower(t, f, true, 5)
	f.Crash(nil)
	checkPower(t, f, false, 5)
	must(t, f.Barrier())
	checkPower(t, f, false, 6)
}

// P7.3: Cut

// operations are one of each kind, which nothing but the power refuses.
func operations() []func(f *flash.Flash) api.Errno {
	return []func(f *flash.Flash) api.Errno{
		func(f *flash.Flash) api.Errno { return f.Program(1, 1, filled(255)) },
		func(f *flash.Flash) api.Errno { return f.Erase(1) },
		func(f *flash.Flash) api.Errno { return f.Barrier() },
	}
}

func TestCutAheadOfEachOperation(t *testing.T) {
	for _, operation := range operations() {
		f := create(t, 2, 2)
		f.Cut(0)
		checkPower(t, f, false, 0)
		answers(t, []api.Errno{operation(f)}, api.ErrDead)
		checkPower(t, f, true, 0)
		for _, other := range operations() {
			answers(t, []api.Errno{other(f)}, api.ErrDead)
		}
		checkPower(t, f, true, 0)
	}
}

func TestCutBehindSoManyOperations(t *testing.T) {
	for n := range 40 {
		for k := range 3 {
			f := create(t, 2, 2)
			must(t, f.Barrier(), f.Erase(0))
			f.Cut(n)
			for i := range n {
				must(t, operations()[(i+k)%3](f))
				checkPower(t, f, false, 2+i+1)
			}
			answers(t, []api.Errno{operations()[k](f)}, api.ErrDead)
			checkPower(t, f, true, 2+n)
		}
	}
}

func TestOperationsThatAreRefusedDoNotCountForCut(t *testing.T) {
	for n := range 4 {
		f := create(t, 1, 2)
		must(t, f.Program(0, 0, striped(1)))
		f.Cut(n)
		refused := func() {
			t.Helper()
			answers(t, []api.Errno{f.Program(0, 0, striped(1)), f.Program(0, 2, striped(1)), f.Program(0, 1, nil), f.Erase(1)}, api.ErrWritten, api.ErrArg, api.ErrArg, api.ErrArg)
			checkPower(t, f, false, f.Done())
		}
		refused()
		for range n {
			must(t, f.Program(0, 1, filled(255)))
			refused()
		}
		answers(t, []api.Errno{f.Program(0, 1, filled(255))}, api.ErrDead)
		checkPower(t, f, true, 1+n)
	}
}

func TestOperationsAheadOfCutDoNotCount(t *testing.T) {
	f := create(t, 1, 1)
	must(t, f.Erase(0), f.Erase(0), f.Barrier())
	f.Cut(1)
	answers(t, []api.Errno{f.Erase(0), f.Erase(0)}, api.OK, api.ErrDead)
}

func TestALaterCutHolds(t *testing.T) {
	for _, first := range []int{-1, 0, 1, 2, 7, math.MaxInt} {
		for then := range 5 {
			f := create(t, 1, 1)
			f.Cut(first)
			f.Cut(then)
			for range then {
				must(t, f.Barrier())
			}
			answers(t, []api.Errno{f.Barrier()}, api.ErrDead)
		}
	}
	f := create(t, 1, 1)
	f.Cut(2)
	must(t, f.Barrier(), f.Barrier())
	f.Cut(2)
	answers(t, []api.Errno{f.Barrier(), f.Barrier(), f.Barrier()}, api.OK, api.OK, api.ErrDead)
}

func TestCutWithANegativeNumber(t *testing.T) {
	for _, after := range []int{-1, -2, -128, math.MinInt32, math.MinInt} {
		f := create(t, 1, 1)
		for first := range 3 {
			f.Cut(first)
			f.Cut(after)
			for range 10 {
				must(t, f.Barrier())
			}
		}
		checkPower(t, f, false, 30)
	}
}

func TestCutBehindVeryManyOperations(t *testing.T) {
	for _, after := range []int{1000, math.MaxInt32, math.MaxInt} {
		f := create(t, 1, 1)
		f.Cut(after)
		for range 1000 {
			must(t, f.Barrier())
		}
		checkPower(t, f, false, 1000)
	}
}

func TestCutWithThePowerOffDoesNothing(t *testing.T) {
	for _, after := range []int{-1, 0, 1, 5, math.MaxInt, math.MinInt} {
		f := create(t, 1, 1)
		f.Cut(0)
		f.Barrier()
		f.Cut(after)
		answers(t, []api.Errno{f.Barrier(), f.Erase(0)}, api.ErrDead, api.ErrDead)
		checkPower(t, f, true, 0)
		f.Crash(nil)
		for range 10 {
			must(t, f.Barrier())
		}
	}
}

func TestOperationsRefusedByThePowerAreNotDone(t *testing.T) {
	for _, after := range []int{0, 1, 2} {
		x := pair(t, 2, 2)
		must(t, x.program(t, 0, 0, striped(1)), x.barrier(t))
		x.cut(t, after)
		for range after {
			must(t, x.program(t, 1, 0, filled(255)))
		}
		answers(t, []api.Errno{x.program(t, 0, 1, striped(2)), x.erase(t, 0), x.barrier(t), x.program(t, 0, 1, striped(3))}, api.ErrDead, api.ErrDead, api.ErrDead, api.ErrDead)
		x.crash(t, 128, 128, 128, 128, 128, 128)
		checkPages(t, x.f, striped(1), filled(255))
	}
}

// P7.3: Crash

func TestCrashWithoutFates(t *testing.T) {
	for _, fates := range [][]int{nil, {}} {
		x := pair(t, 1, 3)
		must(t, x.program(t, 0, 0, striped(1)), x.barrier(t), x.program(t, 0, 1, striped(2)), x.erase(t, 0), x.program(t, 0, 2, striped(3)))
		x.crash(t, fates...)
		checkPages(t, x.f, striped(1), filled(255), filled(255))
	}
}

func TestCrashOfAProgram(t *testing.T) {
	for _, n := range []int{math.MinInt, -129, -128, -1, 0, 1, 2, 5, 63, 64, 65, 126, 127, 128, 129, 130, 200, 1 << 40, math.MaxInt} {
		x := pair(t, 2, 2)
		must(t, x.program(t, 1, 1, striped(1)))
		x.crash(t, n)
		checkPage(t, x.f, 1, 1, torn(max(n, 0), striped(1), filled(255)))
		checkPage(t, x.f, 1, 0, filled(255))
	}
}

func TestCrashOfAnErase(t *testing.T) {
	for _, n := range []int{math.MinInt, -5, -1, 0, 1, 2, 3, 4, 5, 6, 128, 1 << 40, math.MaxInt} {
		x := pair(t, 3, 4)
		for i := range 12 {
			must(t, x.program(t, i/4, i%4, striped(i)))
		}
		must(t, x.barrier(t), x.erase(t, 1))
		x.crash(t, n)
		for i := range 12 {
			if i/4 == 1 && i%4 < n {
				checkPage(t, x.f, i/4, i%4, filled(255))
			} else {
				checkPage(t, x.f, i/4, i%4, striped(i))
			}
		}
	}
}

func TestCrashOfAnEraseOfTheGreatestSegment(t *testing.T) {
	for n := range maxPages + 2 {
		f := create(t, 1, maxPages)
		for page := range maxPages {
			must(t, f.Program(0, page, striped(page)))
		}
		must(t, f.Barrier(), f.Erase(0))
		f.Crash([]int{n})
		for page := range maxPages {
			want := striped(page)
			if page < n {
				want = filled(255)
			}
			checkPage(t, f, 0, page, want)
		}
	}
}

func TestEachOperationHasItsFate(t *testing.T) {
	for i := range 6 {
		x := pair(t, 3, 2)
		for k := range 6 {
			must(t, x.program(t, k%3, k/3, striped(k)))
		}
		fates := make([]int, 6)
		fates[i] = 9
		x.crash(t, fates...)
		for k := range 6 {
			checkPage(t, x.f, k%3, k/3, torn(fates[k], striped(k), filled(255)))
		}
	}
}

func TestOnlyWhatIsDoneAndNotSafeHasAFate(t *testing.T) {
	x := pair(t, 1, 4)
	must(t, x.program(t, 0, 0, striped(1)), x.erase(t, 0), x.program(t, 0, 0, striped(2)), x.barrier(t), x.barrier(t))
	answers(t, []api.Errno{x.program(t, 0, 0, striped(9)), x.program(t, 0, 9, striped(9)), x.erase(t, 1)}, api.ErrWritten, api.ErrArg, api.ErrArg)
	must(t, x.program(t, 0, 1, filled(255)))
	answers(t, []api.Errno{x.program(t, 0, 0, striped(9))}, api.ErrWritten)
	must(t, x.program(t, 0, 1, striped(3)), x.program(t, 0, 2, striped(4)))
	x.crash(t, 1, 2, 3, 4)
	checkPages(t, x.f, striped(2), torn(2, striped(3), filled(255)), torn(3, striped(4), filled(255)), filled(255))
}

func TestCrashWithFewerFatesThanOperations(t *testing.T) {
	for many := range 4 {
		x := pair(t, 1, 3)
		for page := range 3 {
			must(t, x.program(t, 0, page, striped(page)))
		}
		x.crash(t, slices.Repeat([]int{128}, many)...)
		for page := range 3 {
			want := filled(255)
			if page < many {
				want = striped(page)
			}
			checkPage(t, x.f, 0, page, want)
		}
	}
}

func TestCrashWithMoreFatesThanOperations(t *testing.T) {
	x := pair(t, 1, 2)
	x.crash(t, 128, 128)
	must(t, x.program(t, 0, 0, striped(1)))
	x.crash(t, 128, 128, 128, 128)
	checkPages(t, x.f, striped(1), filled(255))
}

func TestTornProgramsAndErasesInTheirOrder(t *testing.T) {
	a, b, c, none := striped(1), striped(2), striped(3), filled(255)
	// Two pages are a, and safe; then come an Erase, a Program of both with b, an Erase, and a Program of the second one with c.
	for _, x := range []struct {
		fates []int
		want  [2][]byte
	}{
		{[]int{0, 0, 0, 0, 0}, [2][]byte{a, a}},
		{[]int{1, 0, 0, 0, 0}, [2][]byte{none, a}},
		{[]int{2, 0, 0, 0, 0}, [2][]byte{none, none}},
		{[]int{0, 5, 0, 0, 0}, [2][]byte{torn(5, b, a), a}},
		{[]int{1, 5, 7, 0, 0}, [2][]byte{torn(5, b, none), torn(7, b, a)}},
		{[]int{2, 5, 7, 0, 0}, [2][]byte{torn(5, b, none), torn(7, b, none)}},
		{[]int{2, 5, 7, 1, 0}, [2][]byte{none, torn(7, b, none)}},
		{[]int{2, 128, 128, 2, 0}, [2][]byte{none, none}},
		{[]int{2, 128, 128, 0, 3}, [2][]byte{b, torn(3, c, b)}},
		{[]int{2, 128, 128, 1, 3}, [2][]byte{none, torn(3, c, b)}},
		{[]int{2, 128, 128, 2, 3}, [2][]byte{none, torn(3, c, none)}},
		{[]int{0, 0, 100, 0, 50}, [2][]byte{a, torn(50, c, torn(100, b, a))}},
		{[]int{0, 0, 50, 0, 100}, [2][]byte{a, torn(100, c, a)}},
		{[]int{0, 0, 0, 2, 0}, [2][]byte{none, none}},
		{[]int{-1, 200, -1, -1, 200}, [2][]byte{b, c}},
		{[]int{9, -1, 128, 1, -9}, [2][]byte{none, b}},
	} {
		f := pair(t, 1, 2)
		must(t, f.program(t, 0, 0, a), f.program(t, 0, 1, a), f.barrier(t))
		must(t, f.erase(t, 0), f.program(t, 0, 0, b), f.program(t, 0, 1, b), f.erase(t, 0), f.program(t, 0, 1, c))
		f.crash(t, x.fates...)
		checkPages(t, f.f, x.want[0], x.want[1])
	}
}

func TestAPageThatIsTornIsNotErasedUnlessNothingShows(t *testing.T) {
	b := torn(3, filled(255), striped(1))
	for n := range 6 {
		x := pair(t, 1, 1)
		must(t, x.program(t, 0, 0, b))
		x.crash(t, n)
		want := api.ErrWritten
		if n <= 3 {
			want = api.OK
		}
		answers(t, []api.Errno{x.program(t, 0, 0, striped(7))}, want)
	}
}

func TestAnEraseThatIsLostLeavesItsPagesWritten(t *testing.T) {
	x := pair(t, 1, 2)
	must(t, x.program(t, 0, 0, striped(1)), x.program(t, 0, 1, striped(2)), x.barrier(t), x.erase(t, 0))
	x.crash(t, 1)
	answers(t, []api.Errno{x.program(t, 0, 0, striped(3)), x.program(t, 0, 1, striped(4))}, api.OK, api.ErrWritten)
}

func TestCrashWithThePowerOff(t *testing.T) {
	x := pair(t, 1, 3)
	must(t, x.program(t, 0, 0, striped(1)), x.barrier(t))
	x.cut(t, 2)
	answers(t, []api.Errno{x.program(t, 0, 1, striped(2)), x.program(t, 0, 2, striped(3)), x.erase(t, 0)}, api.OK, api.OK, api.ErrDead)
	x.crash(t, 4, 128, 128)
	checkPower(t, x.f, false, 4)
	checkPages(t, x.f, striped(1), torn(4, striped(2), filled(255)), striped(3))
}

func TestThePowerStaysOnBehindACrash(t *testing.T) {
	for _, after := range []int{0, 1, 2, 3} {
		f := create(t, 1, 1)
		f.Cut(after)
		for range min(after, 2) {
			must(t, f.Barrier())
		}
		f.Crash(nil)
		for range 10 {
			must(t, f.Barrier(), f.Erase(0), f.Program(0, 0, striped(1)))
		}
		f.Cut(1)
		answers(t, []api.Errno{f.Barrier(), f.Barrier()}, api.OK, api.ErrDead)
	}
}

func TestEverythingIsSafeBehindACrash(t *testing.T) {
	x := pair(t, 2, 2)
	must(t, x.program(t, 0, 0, striped(1)), x.program(t, 0, 1, striped(2)), x.erase(t, 1), x.program(t, 1, 0, striped(3)))
	x.crash(t, 10, 128, 2, 20)
	for _, fates := range [][]int{nil, {0, 0, 0, 0}, {128, 128, 128, 128}, {-1, 5}} {
		x.crash(t, fates...)
		checkPages(t, x.f, torn(10, striped(1), filled(255)), striped(2))
		checkPage(t, x.f, 1, 0, torn(20, striped(3), filled(255)))
	}
}

func TestSeveralCrashes(t *testing.T) {
	x := pair(t, 1, 2)
	must(t, x.program(t, 0, 0, striped(1)))
	x.crash(t, 100)
	must(t, x.erase(t, 0), x.program(t, 0, 0, striped(2)))
	x.crash(t, 0, 50)
	checkPages(t, x.f, torn(50, striped(2), torn(100, striped(1), filled(255))), filled(255))
	must(t, x.program(t, 0, 1, striped(3)))
	x.cut(t, 0)
	answers(t, []api.Errno{x.erase(t, 0)}, api.ErrDead)
	x.crash(t, 1)
	must(t, x.erase(t, 0), x.barrier(t), x.program(t, 0, 1, striped(4)))
	x.crash(t, 7, 7)
	checkPages(t, x.f, filled(255), torn(7, striped(4), filled(255)))
}

// P7.4

// used returns a flash with things of all kinds: safe and not, with the power to go off.
func used(t *testing.T) both {
	t.Helper()
	x := pair(t, 3, 2)
	must(t, x.program(t, 0, 0, striped(1)), x.program(t, 1, 1, striped(2)), x.erase(t, 2), x.barrier(t))
	must(t, x.program(t, 2, 0, striped(3)), x.erase(t, 1), x.program(t, 1, 0, striped(4)))
	x.cut(t, 4)
	must(t, x.program(t, 0, 1, striped(5)))
	return x
}

func TestCopyIsTheSame(t *testing.T) {
	x := used(t)
	c := x.copy()
	c.check(t, "copy")
	// What is not safe, and when the power goes off, is the same, too.
	for _, y := range []both{x, c} {
		answers(t, []api.Errno{y.erase(t, 2), y.barrier(t), y.program(t, 2, 1, striped(6)), y.erase(t, 0), y.erase(t, 0)}, api.OK, api.OK, api.OK, api.ErrDead, api.ErrDead)
	}
	c = x.copy()
	checkPower(t, c.f, true, x.r.done)
	for _, y := range []both{x, c} {
		y.crash(t, 9)
		checkPage(t, y.f, 2, 1, torn(9, striped(6), filled(255)))
		must(t, y.erase(t, 0), y.erase(t, 0))
	}
	used := used(t)
	c = used.copy()
	for _, y := range []both{used, c} {
		y.crash(t, 1, 1, 2, 3)
		checkPage(t, y.f, 0, 1, torn(3, striped(5), filled(255)))
	}
}

func TestCopyAndItsOriginalDoNotChangeEachOther(t *testing.T) {
	changes := []func(x both){
		func(x both) { x.program(t, 2, 1, striped(7)) },
		func(x both) { x.erase(t, 0) },
		func(x both) { x.erase(t, 1); x.program(t, 1, 0, striped(8)) },
		func(x both) { x.barrier(t) },
		func(x both) { x.cut(t, 0); x.barrier(t) },
		func(x both) { x.cut(t, -1) },
		func(x both) { x.crash(t) },
		func(x both) { x.crash(t, 128, 128, 128, 128) },
		func(x both) { x.barrier(t); x.erase(t, 2); x.crash(t, 1) },
	}
	for i, change := range changes {
		for _, whose := range []int{0, 1} {
			x := used(t)
			two := [2]both{x, x.copy()}
			change(two[whose])
			two[1-whose].check(t, fmt.Sprintf("change %d of %d", i, whose))
			// What is not safe is the other's own, too.
			must(t, two[1-whose].program(t, 2, 1, striped(9)), two[1-whose].erase(t, 0))
			two[whose].check(t, fmt.Sprintf("operations behind change %d of %d", i, whose))
			two[1-whose].crash(t, 2, 2, 3, 128, 5, 1)
			two[whose].crash(t, 1, 1, 4, 5, 6, 7)
			two[1-whose].check(t, fmt.Sprintf("crash behind change %d of %d", i, whose))
		}
	}
}

func TestWhatIsNotSafeIsTheCopysOwn(t *testing.T) {
	for many := range 20 {
		x := pair(t, 1, 22)
		for page := range many {
			must(t, x.program(t, 0, page, striped(page)))
		}
		c := x.copy()
		must(t, x.program(t, 0, many, striped(50)), c.program(t, 0, many+1, striped(60)), c.erase(t, 0), x.erase(t, 0))
		fates := slices.Repeat([]int{128}, many+1)
		for _, y := range []both{x, c} {
			y.crash(t, fates...)
		}
		checkPage(t, x.f, 0, many, striped(50))
		checkPage(t, c.f, 0, many+1, striped(60))
	}
}

func TestCopiesOfACopy(t *testing.T) {
	x := used(t)
	all := []both{x, x.copy(), x.copy().copy()}
	for i, y := range all {
		y.program(t, 2, 1, striped(10+i))
	}
	for i, y := range all {
		y.check(t, "copies")
		checkPage(t, y.f, 2, 1, striped(10+i))
		y.crash(t, 0, 0, 0, 0, 128)
		checkPage(t, y.f, 2, 1, striped(10+i))
	}
}

func TestNilFlash(t *testing.T) {
	var f *flash.Flash
	for _, seg := range []int{-1, 0, 1, math.MaxInt} {
		for _, page := range []int{-1, 0, 1, math.MaxInt} {
			for _, b := range [][]byte{nil, striped(1), make([]byte, 500)} {
				answers(t, []api.Errno{f.Program(seg, page, b), f.Erase(seg), f.Barrier()}, api.ErrNone, api.ErrNone, api.ErrNone)
			}
			if b, err := f.Read(seg, page); len(b) != 0 || err != api.ErrNone {
				t.Errorf("Read returns %v, %d", b, err)
			}
		}
		if n := f.Wear(seg); n != 0 {
			t.Errorf("Wear returns %d", n)
		}
		f.Cut(seg)
		f.Crash([]int{seg, 5})
		f.Crash(nil)
		if f.Segs() != 0 || f.Pages() != 0 || f.Done() != 0 || f.Dead() || f.Copy() != nil {
			t.Errorf("%d segments, %d pages, %d done, dead: %t, a copy: %v", f.Segs(), f.Pages(), f.Done(), f.Dead(), f.Copy())
		}
	}
}

// P7.5 to P7.7

func TestAPageIsProgrammedOnceBetweenTwoErases(t *testing.T) {
	var d dice
	f := create(t, 3, 3)
	programmed := map[place]bool{}
	for range 20000 {
		at := place{d.roll(3), d.roll(3)}
		b := d.page()
		if d.roll(10) == 0 {
			must(t, f.Erase(at.seg))
			for page := range 3 {
				delete(programmed, place{at.seg, page})
			}
			continue
		}
		want := api.OK
		if len(b) != pageSize {
			want = api.ErrArg
		} else if programmed[at] {
			want = api.ErrWritten
		}
		answers(t, []api.Errno{f.Program(at.seg, at.page, b)}, want)
		if want == api.OK && !bytes.Equal(b, filled(255)) {
			programmed[at] = true
		}
	}
}

func TestWhatWasSafeRemains(t *testing.T) {
	var d dice
	for range 500 {
		x := pair(t, 4, 2)
		for i := range 6 {
			must(t, x.program(t, i/2, i%2, striped(i)))
		}
		must(t, x.barrier(t))
		// From here on, segment 0 and page 0 of segment 3 stay as they are.
		must(t, x.erase(t, 1), x.program(t, 1, 1, striped(8)), x.program(t, 3, 1, striped(9)), x.erase(t, 2))
		x.crash(t, d.fates()...)
		checkPages(t, x.f, striped(0), striped(1))
		checkPage(t, x.f, 3, 0, filled(255))
	}
}

func TestAnInterruptedProgramLeavesAPrefix(t *testing.T) {
	for n := range pageSize + 1 {
		x := pair(t, 1, 2)
		must(t, x.program(t, 0, 0, striped(1)))
		x.crash(t, n)
		checkPages(t, x.f, torn(n, striped(1), filled(255)), filled(255))
		must(t, x.erase(t, 0), x.program(t, 0, 0, striped(2)), x.program(t, 0, 1, striped(3)))
		x.crash(t, 0, 128-n, n)
		checkPages(t, x.f, torn(128-n, striped(2), torn(n, striped(1), filled(255))), torn(n, striped(3), filled(255)))
	}
}

func TestExactlySoManyOperationsBehindCut(t *testing.T) {
	var d dice
	for n := range 200 {
		x := pair(t, 2, 3)
		x.cut(t, n%20)
		before := x.f.Done()
		for !x.f.Dead() {
			switch seg, page := d.roll(4)-1, d.roll(5)-1; d.roll(4) {
			case 0:
				x.erase(t, seg)
			case 1:
				x.barrier(t)
			default:
				x.program(t, seg, page, d.page())
			}
		}
		if got := x.f.Done() - before; got != n%20 {
			t.Errorf("%d operations behind Cut(%d)", got, n%20)
		}
	}
}

func TestOperationsThatAreRefusedChangeNothing(t *testing.T) {
	for n := range 6 {
		x := used(t)
		plain := used(t)
		for range n {
			answers(t, []api.Errno{x.program(t, 0, 0, striped(9)), x.program(t, 3, 0, striped(9)), x.program(t, 2, 1, nil), x.erase(t, -1)}, api.ErrWritten, api.ErrArg, api.ErrArg, api.ErrArg)
		}
		for _, y := range []both{x, plain} {
			answers(t, []api.Errno{y.erase(t, 2), y.program(t, 2, 0, striped(6)), y.erase(t, 1)}, api.OK, api.OK, api.OK)
			for range n {
				answers(t, []api.Errno{y.erase(t, 0), y.barrier(t), y.program(t, 2, 1, striped(6))}, api.ErrDead, api.ErrDead, api.ErrDead)
			}
			y.crash(t, 128, 1, 2, 3, 1, 5, 1, 128, 128)
		}
		plain.r.check(t, "both", x.f)
	}
}

func TestAnyCalls(t *testing.T) {
	for i := range 300 {
		d := dice(i)
		x := pair(t, 1+i%4, 1+i%3)
		for range 150 {
			x.step(t, &d)
			if d.roll(20) == 0 {
				c := x.copy()
				for range d.roll(9) {
					c.step(t, &d)
					x.check(t, "behind a call of its copy")
					x.step(t, &d)
					c.check(t, "copy")
				}
				if d.roll(2) == 0 {
					x = c
				}
			}
		}
	}
}

// The chapter's examples

func TestExamples(t *testing.T) {
	f := create(t, 1, 2)
	answers(t, []api.Errno{f.Program(0, 1, filled(7)), f.Program(0, 1, filled(7)), f.Erase(0), f.Program(0, 1, filled(7))}, api.OK, api.ErrWritten, api.OK, api.OK)
	f.Crash([]int{128, 0, 5})
	checkPages(t, f, filled(255), filled(7))
	// With other bytes, the first five are those of the third operation.
	f = create(t, 1, 2)
	must(t, f.Program(0, 1, filled(7)), f.Erase(0), f.Program(0, 1, filled(8)))
	f.Crash([]int{128, 0, 5})
	checkPages(t, f, filled(255), torn(5, filled(8), filled(7)))
}

// Rules 3 to 6 of the document

// guarded returns the bytes as a part of a greater array, and that array.
func guarded(s []byte) (part, array []byte) {
	array = slices.Concat([]byte("<<<"), s, []byte(">>>>>>>>"))
	return array[3 : 3+len(s) : len(array)], array
}

func TestBytesHandedInAreNotChanged(t *testing.T) {
	for _, n := range []int{0, 100, 127, 128, 129} {
		f := create(t, 1, 2)
		part, array := guarded(append(striped(1), 1)[:n])
		before := bytes.Clone(array)
		f.Program(0, 0, part)
		f.Program(0, 0, part)
		f.Erase(0)
		f.Program(0, 0, part)
		f.Barrier()
		f.Crash([]int{128})
		f.Erase(0)
		f.Program(0, 0, part)
		f.Crash([]int{0, 50})
		if !bytes.Equal(array, before) {
			t.Errorf("%d bytes became %v", n, array)
		}
	}
}

func TestBytesHandedInAreNotKept(t *testing.T) {
	x := pair(t, 1, 3)
	b := make([]byte, pageSize)
	for page := range 3 {
		copy(b, striped(page))
		must(t, x.program(t, 0, page, b))
		clear(b)
		x.check(t, "with its bytes changed")
	}
	x.copy().check(t, "copy")
	x.crash(t, 128, 60, 128)
	checkPages(t, x.f, striped(0), torn(60, striped(1), filled(255)), striped(2))
}

func TestFatesAreNeitherChangedNorKept(t *testing.T) {
	array := []int{7, -1, 3, 500, 128, 128, 128}
	x := pair(t, 1, 6)
	for page := range 6 {
		must(t, x.program(t, 0, page, striped(page)))
	}
	// The fates beyond the length are not read.
	x.f.Crash(array[:4])
	x.r.crash([]int{7, -1, 3, 500})
	x.check(t, "behind Crash")
	if !slices.Equal(array, []int{7, -1, 3, 500, 128, 128, 128}) {
		t.Errorf("the fates became %d", array)
	}
	must(t, x.erase(t, 0))
	clear(array)
	x.check(t, "with the fates changed")
	x.crash(t)
}

func TestPagesThatAreReadAreTheCallersOwn(t *testing.T) {
	x := pair(t, 1, 3)
	must(t, x.program(t, 0, 0, striped(1)), x.barrier(t), x.program(t, 0, 1, striped(2)))
	spoil := func(b []byte) {
		for i := range b[:cap(b)] {
			b[:cap(b)][i] ^= 0xff
		}
	}
	for page := range 3 {
		first, _ := x.f.Read(0, page)
		second, _ := x.f.Read(0, page)
		want := bytes.Clone(second)
		spoil(first)
		if !bytes.Equal(second, want) {
			t.Errorf("two results of page %d share memory", page)
		}
		x.check(t, "with a result changed")
	}
	// Nor does a result change with the flash.
	b, _ := x.f.Read(0, 1)
	must(t, x.erase(t, 0))
	if !bytes.Equal(b, striped(2)) {
		t.Errorf("a result became %v", b)
	}
	spoil(b)
	x.crash(t, 128)
	checkPages(t, x.f, striped(1), striped(2), filled(255))
}

func TestSameCallsSameResults(t *testing.T) {
	play := func() (both, []api.Errno) {
		x := pair(t, 2, 2)
		var d dice
		var l []api.Errno
		for range 400 {
			x.step(t, &d)
			l = append(l, x.f.Erase(0), x.r.erase(0))
		}
		return x, l
	}
	x, first := play()
	y, second := play()
	y.r.check(t, "the other", x.f)
	answers(t, first, second...)
}
