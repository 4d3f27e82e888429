package table_test

import (
	"math"
	"slices"
	"testing"

	"pumice/api"
	"pumice/table"
)

// outside returns numbers that are none of 0 to n - 1.
func outside(n int) []int {
	return []int{math.MinInt, math.MinInt32, -4096, -256, -2, -1, n, n + 1, n + 256, n + 4096, math.MaxInt32, math.MaxInt}
}

func create(t *testing.T, n int) *table.Table {
	t.Helper()
	x, err := table.New(n)
	if x == nil || err != api.OK {
		t.Fatalf("New(%d) returns %v, %d", n, x, err)
	}
	return x
}

// answers checks what calls returned, in order.
func answers(t *testing.T, got []api.Errno, want ...api.Errno) {
	t.Helper()
	if !slices.Equal(got, want) {
		t.Errorf("answers are %d, not %d", got, want)
	}
}

// must checks that calls returned OK.
func must(t *testing.T, got ...api.Errno) {
	t.Helper()
	answers(t, got, make([]api.Errno, len(got))...)
}

func checkLoads(t *testing.T, next uint64, l ...api.Segment) {
	t.Helper()
	if !loadable(l, next) {
		t.Fatalf("%v, %d may not be loaded", l, next)
	}
	loaded(t, next, l...)
}

func checkLoadRefuses(t *testing.T, next uint64, l ...api.Segment) {
	t.Helper()
	if x, err := table.Load(l, next); x != nil || err != api.ErrArg {
		t.Errorf("Load(%v, %d) returns %v, %d", l, next, x, err)
	}
}

func checkSealed(t *testing.T, x *table.Table, want ...int) {
	t.Helper()
	if l := x.Sealed(); !slices.Equal(l, want) {
		t.Errorf("sealed are %v, not %v", l, want)
	}
}

func checkRows(t *testing.T, x *table.Table, want ...api.Segment) {
	t.Helper()
	if l := x.Rows(); !slices.Equal(l, want) {
		t.Errorf("Rows returns %v, not %v", l, want)
	}
}

func checkCurrent(t *testing.T, x *table.Table, want int, there bool) {
	t.Helper()
	if seg, is := x.Current(); seg != want || is != there {
		t.Errorf("Current returns %d, %t; not %d, %t", seg, is, want, there)
	}
}

// P11.1: New

func TestNew(t *testing.T) {
	for _, n := range []int{0, 1, 2, 3, 20, 64, 127, 128, 255, 256} {
		x := create(t, n)
		if x.Free() != n || x.Next() != 1 || len(x.Rows()) != n || len(x.Sealed()) != 0 {
			t.Errorf("New(%d) has %d free segments, Next %d, Rows %v, Sealed %v", n, x.Free(), x.Next(), x.Rows(), x.Sealed())
		}
		checkRows(t, x, make([]api.Segment, n)...)
		checkCurrent(t, x, 0, false)
	}
}

func TestNewRefuses(t *testing.T) {
	for _, n := range outside(maxSegs + 1) {
		if x, err := table.New(n); x != nil || err != api.ErrArg {
			t.Errorf("New(%d) returns %v, %d", n, x, err)
		}
	}
}

func TestTablesAreIndependent(t *testing.T) {
	one, other := pair(t, 2), pair(t, 2)
	one.opens(t, 0, 1)
	other.check(t, "the other")
	must(t, one.seal(t))
	other.check(t, "the other")
	other.opens(t, 0, 1)
	one.check(t, "the one")
	must(t, one.release(t, 0))
	other.check(t, "the other")
}

func TestTableWithoutSegments(t *testing.T) {
	for _, b := range []both{pair(t, 0), loaded(t, 1), loaded(t, 1, []api.Segment{}...), loaded(t, 9), loaded(t, math.MaxUint64)} {
		next := b.x.Next()
		b.refuses(t, api.ErrFull)
		answers(t, []api.Errno{b.seal(t), b.release(t, 0), b.release(t, -1)}, api.ErrNone, api.ErrArg, api.ErrArg)
		if b.x.Next() != next {
			t.Errorf("Next is %d, not %d", b.x.Next(), next)
		}
	}
}

// P11.1: Load

func TestLoadHasExactlyTheseSegments(t *testing.T) {
	l := []api.Segment{{Kind: sealed, Seq: 4, Wear: 7}, {Wear: 3}, {Kind: open, Seq: 5, Wear: 1}, {}, {Kind: sealed, Seq: 2}, {Kind: sealed, Seq: 1, Wear: maxWear}, {Wear: maxWear}}
	x, err := table.Load(l, 9)
	if err != api.OK {
		t.Fatalf("Load returns %d", err)
	}
	checkRows(t, x, l...)
	checkCurrent(t, x, 2, true)
	checkSealed(t, x, 5, 4, 0)
	if x.Free() != 3 || x.Next() != 9 {
		t.Errorf("%d are free, Next is %d", x.Free(), x.Next())
	}
}

func TestLoadOfManySegments(t *testing.T) {
	for _, n := range []int{0, 1, 2, 127, 128, 255, 256, 257, 258, 300, 512, 513, 1 << 12, 1 << 16} {
		frees, seals := make([]api.Segment, n), make([]api.Segment, n)
		for i := range n {
			frees[i].Wear = uint32(i)
			seals[i] = api.Segment{Kind: sealed, Seq: uint64(n - i), Wear: uint32(i)}
		}
		if n <= maxSegs {
			checkLoads(t, uint64(n+1), frees...)
			checkLoads(t, uint64(n+1), seals...)
		} else {
			checkLoadRefuses(t, uint64(n+1), frees...)
			checkLoadRefuses(t, uint64(n+1), seals...)
		}
	}
}

func TestLoadRefusesNextZero(t *testing.T) {
	checkLoadRefuses(t, 0)
	checkLoadRefuses(t, 0, api.Segment{})
	checkLoadRefuses(t, 0, api.Segment{Wear: 1}, api.Segment{})
	checkLoadRefuses(t, 0, api.Segment{Kind: sealed, Seq: 1})
	checkLoadRefuses(t, 0, api.Segment{Kind: open, Seq: 1})
	checkLoadRefuses(t, 0, api.Segment{Kind: sealed, Seq: math.MaxUint64})
	checkLoadRefuses(t, 0, make([]api.Segment, 256)...)
}

func TestLoadOfEachNext(t *testing.T) {
	for _, next := range []uint64{1, 2, 255, 256, 257, 1 << 31, 1 << 32, 1<<32 + 1, 1 << 63, math.MaxUint64 - 1, math.MaxUint64} {
		checkLoads(t, next)
		checkLoads(t, next, api.Segment{}, api.Segment{Wear: 5})
		if next > 1 {
			checkLoads(t, next, api.Segment{Kind: sealed, Seq: 1}, api.Segment{})
			checkLoads(t, next, api.Segment{Kind: open, Seq: next - 1})
		}
	}
}

func TestLoadOfEachKind(t *testing.T) {
	for kind := range 256 {
		for _, seq := range []uint64{0, 1} {
			s := api.Segment{Kind: uint8(kind), Seq: seq, Wear: 1}
			if kind == free && seq == 0 || (kind == open || kind == sealed) && seq == 1 {
				checkLoads(t, 2, s)
				checkLoads(t, 2, api.Segment{}, s, api.Segment{})
			} else {
				checkLoadRefuses(t, 2, s)
				checkLoadRefuses(t, 2, api.Segment{}, s, api.Segment{})
			}
		}
	}
}

func TestLoadRefusesAFreeSegmentWithASeq(t *testing.T) {
	for _, seq := range []uint64{1, 2, 4, 5, 6, 256, 1 << 32, 1 << 63, math.MaxUint64} {
		for _, next := range []uint64{1, 5, 1 << 40, math.MaxUint64} {
			checkLoadRefuses(t, next, api.Segment{Seq: seq})
			checkLoadRefuses(t, next, api.Segment{}, api.Segment{Seq: seq, Wear: 3})
			checkLoadRefuses(t, next, api.Segment{Seq: seq}, api.Segment{})
		}
	}
}

func TestLoadOfSeqsAroundNext(t *testing.T) {
	for _, next := range []uint64{2, 3, 5, 256, 1 << 32, 1 << 63, math.MaxUint64 - 1, math.MaxUint64} {
		for _, kind := range []uint8{open, sealed} {
			for _, seq := range []uint64{1, next / 2, next - 1} {
				checkLoads(t, next, api.Segment{Kind: kind, Seq: seq})
				checkLoads(t, next, api.Segment{}, api.Segment{Kind: kind, Seq: seq, Wear: 1})
			}
			for _, seq := range []uint64{0, next, next + (math.MaxUint64-next+1)/2, math.MaxUint64} {
				checkLoadRefuses(t, next, api.Segment{Kind: kind, Seq: seq})
				checkLoadRefuses(t, next, api.Segment{}, api.Segment{Kind: kind, Seq: seq, Wear: 1})
			}
		}
	}
	for seq := range uint64(3) {
		// No number was given yet.
		checkLoadRefuses(t, 1, api.Segment{Kind: sealed, Seq: seq})
		checkLoadRefuses(t, 1, api.Segment{Kind: open, Seq: seq})
	}
}

func TestLoadRefusesTheSameSeqTwice(t *testing.T) {
	for _, kinds := range [][2]uint8{{sealed, sealed}, {open, sealed}, {sealed, open}, {open, open}} {
		for i := range 5 {
			for j := range i {
				for _, seq := range []uint64{1, 40, 49} {
					l := make([]api.Segment, 5)
					for k := range l {
						l[k] = api.Segment{Kind: sealed, Seq: uint64(10 + k)}
					}
					l[j] = api.Segment{Kind: kinds[0], Seq: seq, Wear: 1}
					l[i] = api.Segment{Kind: kinds[1], Seq: seq, Wear: 2}
					checkLoadRefuses(t, 50, l...)
					l[i].Seq++
					if kinds != [2]uint8{open, open} && l[i].Seq < 50 {
						checkLoads(t, 50, l...)
					}
				}
			}
		}
	}
}

func TestLoadTakesSeveralFreeSegments(t *testing.T) {
	checkLoads(t, 3, api.Segment{}, api.Segment{}, api.Segment{Kind: sealed, Seq: 1}, api.Segment{}, api.Segment{Kind: open, Seq: 2}, api.Segment{})
}

func TestLoadRefusesTwoOpenSegments(t *testing.T) {
	for i := range 6 {
		for j := range i {
			l := make([]api.Segment, 6)
			l[i] = api.Segment{Kind: open, Seq: 1}
			checkLoads(t, 5, l...)
			l[j] = api.Segment{Kind: open, Seq: 2}
			checkLoadRefuses(t, 5, l...)
			l[j].Kind = sealed
			checkLoads(t, 5, l...)
		}
	}
}

func TestLoadOfAFaultInAnySegment(t *testing.T) {
	for _, n := range []int{1, 2, 3, 20, 255, 256} {
		for _, at := range []int{0, n / 2, n - 1} {
			l := make([]api.Segment, n)
			for i := range l {
				l[i] = api.Segment{Kind: sealed, Seq: uint64(1 + 2*i)}
			}
			checkLoads(t, 600, l...)
			for _, s := range []api.Segment{{Kind: 3, Seq: 2}, {Kind: 255, Seq: 2}, {Seq: 2}, {Kind: sealed}, {Kind: sealed, Seq: 600}, {Kind: open}, {Kind: open, Seq: 601}} {
				l[at] = s
				checkLoadRefuses(t, 600, l...)
			}
			l[at] = api.Segment{Kind: open, Seq: 2}
			checkLoads(t, 600, l...)
		}
	}
}

func TestLoadOfAllSmallTables(t *testing.T) {
	var kinds []api.Segment
	for kind := range uint8(4) {
		for seq := range uint64(4) {
			kinds = append(kinds, api.Segment{Kind: kind, Seq: seq})
		}
	}
	right := 0
	check := func(next uint64, l ...api.Segment) {
		x, err := table.Load(l, next)
		if !loadable(l, next) {
			if x != nil || err != api.ErrArg {
				t.Errorf("Load(%v, %d) returns %v, %d", l, next, x, err)
			}
			return
		}
		right++
		loaded(t, next, l...)
	}
	for next := range uint64(5) {
		for _, a := range kinds {
			check(next, a)
			for _, b := range kinds {
				check(next, a, b)
				for _, c := range kinds {
					check(next, a, b, c)
				}
			}
		}
	}
	// 3 with Next 1, 15 with 2, 51 with 3, 135 with 4.
	if right != 3+15+51+135 {
		t.Errorf("%d small tables are loaded", right)
	}
}

func TestLoadOfAnySegments(t *testing.T) {
	d := dice(1)
	right := 0
	for range 30000 {
		l := make([]api.Segment, d.roll(6))
		next := d.roll(30)
		for i := range l {
			l[i] = d.segment(max(next, 1))
		}
		if loadable(l, uint64(next)) {
			right++
			checkLoads(t, uint64(next), l...)
		} else {
			checkLoadRefuses(t, uint64(next), l...)
		}
	}
	if right < 3000 {
		t.Errorf("only %d tables are loaded", right)
	}
}

// P11.2: Open

func TestOpenOfOneAfterTheOther(t *testing.T) {
	for _, n := range []int{1, 2, 3, 20, 256} {
		b := pair(t, n)
		for i := range n {
			b.opens(t, i, uint64(i+1))
			checkCurrent(t, b.x, i, true)
			must(t, b.seal(t))
			checkCurrent(t, b.x, 0, false)
		}
		b.refuses(t, api.ErrFull)
		b.refuses(t, api.ErrFull)
	}
}

func TestOpenWithASegmentOpen(t *testing.T) {
	b := pair(t, 3)
	b.opens(t, 0, 1)
	b.refuses(t, api.ErrThere)
	b.refuses(t, api.ErrThere)
	must(t, b.seal(t))
	b.opens(t, 1, 2)
	b.refuses(t, api.ErrThere)
	loaded(t, 5, api.Segment{}, api.Segment{}, api.Segment{Kind: open, Seq: 4}).refuses(t, api.ErrThere)
}

func TestOpenWithNoneFree(t *testing.T) {
	b := pair(t, 2)
	b.fill(t, 2)
	b.refuses(t, api.ErrFull)
	must(t, b.release(t, 1))
	b.opens(t, 1, 3)
	must(t, b.seal(t))
	b.refuses(t, api.ErrFull)
	loaded(t, 3, api.Segment{Kind: sealed, Seq: 1}).refuses(t, api.ErrFull)
}

func TestWhichErrorOfOpenComesFirst(t *testing.T) {
	// One is open, and none is free.
	b := pair(t, 1)
	b.opens(t, 0, 1)
	b.refuses(t, api.ErrThere)
	loaded(t, 9, api.Segment{Kind: sealed, Seq: 1}, api.Segment{Kind: open, Seq: 3}).refuses(t, api.ErrThere)
}

func TestOpenOfTheLeastWear(t *testing.T) {
	for _, c := range []struct {
		wears []uint32
		want  int
	}{
		{[]uint32{0}, 0},
		{[]uint32{5}, 0},
		{[]uint32{1, 0}, 1},
		{[]uint32{0, 1}, 0},
		{[]uint32{3, 2, 1}, 2},
		{[]uint32{3, 1, 2}, 1},
		{[]uint32{1, 2, 3}, 0},
		{[]uint32{1<<31 + 1, 1 << 31, 1<<31 + 2}, 1},
		{[]uint32{maxWear, maxWear - 1}, 1},
		{[]uint32{256, 255, 257}, 1},
		{[]uint32{1 << 16, 1<<16 + 1, 1<<16 - 1}, 2},
	} {
		l := make([]api.Segment, len(c.wears))
		for i, wear := range c.wears {
			l[i].Wear = wear
		}
		b := loaded(t, 7, l...)
		b.opens(t, c.want, 7)
		if s := b.x.Rows()[c.want]; s != (api.Segment{Kind: open, Seq: 7, Wear: c.wears[c.want] + 1}) {
			t.Errorf("of %v, %v is open", c.wears, s)
		}
	}
}

func TestOpenOfTheFirstOfSeveral(t *testing.T) {
	b := loaded(t, 9, api.Segment{Wear: 2}, api.Segment{Wear: 1}, api.Segment{Wear: 1}, api.Segment{Wear: 2}, api.Segment{Wear: 1})
	for i, want := range []int{1, 2, 4, 0, 3} {
		b.opens(t, want, uint64(9+i))
		must(t, b.seal(t))
	}
	checkRows(t, b.x, api.Segment{Kind: sealed, Seq: 12, Wear: 3}, api.Segment{Kind: sealed, Seq: 9, Wear: 2}, api.Segment{Kind: sealed, Seq: 10, Wear: 2}, api.Segment{Kind: sealed, Seq: 13, Wear: 3}, api.Segment{Kind: sealed, Seq: 11, Wear: 2})
}

func TestOpenOfTheFirstOfVeryMany(t *testing.T) {
	l := make([]api.Segment, maxSegs)
	for i := range l {
		l[i].Wear = 6
	}
	l[100].Wear, l[200].Wear = 5, 5
	b := loaded(t, 1, l...)
	b.opens(t, 100, 1)
	must(t, b.seal(t))
	b.opens(t, 200, 2)
	must(t, b.seal(t))
	b.opens(t, 0, 3)
}

func TestOpenOfFreeSegmentsAlone(t *testing.T) {
	// The Wear of those that are not free does not count.
	b := loaded(t, 5, api.Segment{Kind: sealed, Seq: 1}, api.Segment{Wear: 9}, api.Segment{Kind: sealed, Seq: 4, Wear: 8}, api.Segment{Wear: 8})
	b.opens(t, 3, 5)
	must(t, b.seal(t))
	b.opens(t, 1, 6)
	must(t, b.seal(t))
	b.refuses(t, api.ErrFull)
}

func TestOpenOfAReleasedSegment(t *testing.T) {
	b := pair(t, 3)
	b.fill(t, 3)
	must(t, b.release(t, 2), b.release(t, 1))
	// The order in which they were released does not count.
	b.opens(t, 1, 4)
	must(t, b.seal(t))
	b.opens(t, 2, 5)
	must(t, b.seal(t), b.release(t, 0))
	b.opens(t, 0, 6)
	checkRows(t, b.x, api.Segment{Kind: open, Seq: 6, Wear: 2}, api.Segment{Kind: sealed, Seq: 4, Wear: 2}, api.Segment{Kind: sealed, Seq: 5, Wear: 2})
}

func TestOpenWithTheGreatestNext(t *testing.T) {
	b := loaded(t, math.MaxUint64, api.Segment{}, api.Segment{}, api.Segment{})
	b.opens(t, 0, math.MaxUint64)
	if b.x.Next() != 0 {
		t.Errorf("Next is %d", b.x.Next())
	}
	must(t, b.seal(t))
	b.opens(t, 1, 0)
	if b.x.Next() != 1 {
		t.Errorf("Next is %d", b.x.Next())
	}
	must(t, b.seal(t))
	b.opens(t, 2, 1)
	checkRows(t, b.x, api.Segment{Kind: sealed, Seq: math.MaxUint64, Wear: 1}, api.Segment{Kind: sealed, Wear: 1}, api.Segment{Kind: open, Seq: 1, Wear: 1})
}

func TestOpenOfGreatNumbers(t *testing.T) {
	for _, next := range []uint64{255, 256, 1<<16 - 1, 1<<31 - 1, 1<<32 - 1, 1 << 32, 1<<63 - 1, 1 << 63, math.MaxUint64 - 1} {
		b := loaded(t, next, api.Segment{}, api.Segment{})
		b.opens(t, 0, next)
		must(t, b.seal(t))
		b.opens(t, 1, next+1)
	}
}

func TestOpenWithTheGreatestWear(t *testing.T) {
	b := loaded(t, 1, api.Segment{Wear: maxWear}, api.Segment{Wear: maxWear - 1})
	b.opens(t, 1, 1)
	must(t, b.seal(t), b.release(t, 1))
	// Now both are the same, and the first one is opened again and again.
	for seq := uint64(2); seq < 6; seq++ {
		b.opens(t, 0, seq)
		checkRows(t, b.x, api.Segment{Kind: open, Seq: seq, Wear: maxWear}, api.Segment{Wear: maxWear})
		must(t, b.seal(t), b.release(t, 0))
	}
	b.opens(t, 0, 6)
	must(t, b.seal(t))
	b.opens(t, 1, 7)
	checkRows(t, b.x, api.Segment{Kind: sealed, Seq: 6, Wear: maxWear}, api.Segment{Kind: open, Seq: 7, Wear: maxWear})
}

func TestWearCountsEachOpen(t *testing.T) {
	b := pair(t, 1)
	for i := range 1000 {
		b.opens(t, 0, uint64(i+1))
		checkRows(t, b.x, api.Segment{Kind: open, Seq: uint64(i + 1), Wear: uint32(i + 1)})
		must(t, b.seal(t), b.release(t, 0))
		checkRows(t, b.x, api.Segment{Wear: uint32(i + 1)})
	}
}

// P11.2: Seal

func TestSealWithNoneOpen(t *testing.T) {
	b := pair(t, 2)
	answers(t, []api.Errno{b.seal(t)}, api.ErrNone)
	b.opens(t, 0, 1)
	answers(t, []api.Errno{b.seal(t), b.seal(t), b.seal(t)}, api.OK, api.ErrNone, api.ErrNone)
	must(t, b.release(t, 0))
	answers(t, []api.Errno{b.seal(t)}, api.ErrNone)
	answers(t, []api.Errno{loaded(t, 3, api.Segment{Kind: sealed, Seq: 2}).seal(t)}, api.ErrNone)
}

func TestSealOfTheOpenOne(t *testing.T) {
	b := loaded(t, 9, api.Segment{Wear: 1}, api.Segment{Kind: sealed, Seq: 8, Wear: 2}, api.Segment{Kind: open, Seq: 7, Wear: 3})
	must(t, b.seal(t))
	checkRows(t, b.x, api.Segment{Wear: 1}, api.Segment{Kind: sealed, Seq: 8, Wear: 2}, api.Segment{Kind: sealed, Seq: 7, Wear: 3})
	checkSealed(t, b.x, 2, 1)
	checkCurrent(t, b.x, 0, false)
}

// P11.2: Release

func TestReleaseOfNoSegment(t *testing.T) {
	for _, n := range []int{0, 1, 3, 256} {
		b := pair(t, n)
		b.fill(t, n)
		for _, seg := range outside(n) {
			answers(t, []api.Errno{b.release(t, seg)}, api.ErrArg)
		}
		// Nor while one is open.
		if n > 0 {
			must(t, b.release(t, n-1))
			b.opens(t, n-1, uint64(n+1))
			for _, seg := range outside(n) {
				answers(t, []api.Errno{b.release(t, seg)}, api.ErrArg)
			}
		}
	}
}

func TestReleaseOfWhatIsNotSealed(t *testing.T) {
	b := pair(t, 3)
	b.fill(t, 1)
	b.opens(t, 1, 2)
	answers(t, []api.Errno{b.release(t, 1), b.release(t, 2), b.release(t, 3), b.release(t, -1), b.release(t, 0), b.release(t, 0)}, api.ErrNone, api.ErrNone, api.ErrArg, api.ErrArg, api.OK, api.ErrNone)
	checkRows(t, b.x, api.Segment{Wear: 1}, api.Segment{Kind: open, Seq: 2, Wear: 1}, api.Segment{})
}

func TestReleaseOfEachSegment(t *testing.T) {
	for _, n := range []int{1, 2, 5, 256} {
		for _, seg := range []int{0, n / 2, n - 1} {
			b := pair(t, n)
			b.fill(t, n)
			must(t, b.release(t, seg))
			if s := b.x.Rows()[seg]; s != (api.Segment{Wear: 1}) || b.x.Free() != 1 {
				t.Errorf("segment %d of %d is %v, %d are free", seg, n, s, b.x.Free())
			}
			answers(t, []api.Errno{b.release(t, seg)}, api.ErrNone)
			b.opens(t, seg, uint64(n+1))
			answers(t, []api.Errno{b.release(t, seg), b.seal(t), b.release(t, seg)}, api.ErrNone, api.OK, api.OK)
		}
	}
}

func TestReleaseOfAllSegments(t *testing.T) {
	b := pair(t, 20)
	b.fill(t, 20)
	for i := range 20 {
		// 7 and 20 have no factor in common.
		must(t, b.release(t, 7*i%20))
		if b.x.Free() != i+1 {
			t.Errorf("%d are free, not %d", b.x.Free(), i+1)
		}
	}
	checkSealed(t, b.x)
}

// P11.3

func TestCurrentOfEachSegment(t *testing.T) {
	for _, n := range []int{1, 3, 256} {
		for _, seg := range []int{0, n / 2, n - 1} {
			l := make([]api.Segment, n)
			l[seg] = api.Segment{Kind: open, Seq: 1}
			b := loaded(t, 2, l...)
			checkCurrent(t, b.x, seg, true)
			must(t, b.seal(t))
			checkCurrent(t, b.x, 0, false)
			must(t, b.release(t, seg))
			checkCurrent(t, b.x, 0, false)
		}
	}
}

func TestFreeCountsNeitherOpenNorSealed(t *testing.T) {
	b := pair(t, 4)
	got := []int{b.x.Free()}
	b.opens(t, 0, 1)
	got = append(got, b.x.Free())
	must(t, b.seal(t))
	got = append(got, b.x.Free())
	b.fill(t, 2)
	got = append(got, b.x.Free())
	must(t, b.release(t, 1))
	got = append(got, b.x.Free())
	if !slices.Equal(got, []int{4, 3, 3, 1, 2}) {
		t.Errorf("free are %v", got)
	}
}

func TestSealedInTheOrderOfTheirNumbers(t *testing.T) {
	b := loaded(t, 1<<63+9, api.Segment{Kind: sealed, Seq: 7}, api.Segment{Kind: sealed, Seq: 1 << 63}, api.Segment{Kind: open, Seq: 3}, api.Segment{Kind: sealed, Seq: 1}, api.Segment{}, api.Segment{Kind: sealed, Seq: 1 << 32})
	checkSealed(t, b.x, 3, 0, 5, 1)
	must(t, b.seal(t))
	checkSealed(t, b.x, 3, 2, 0, 5, 1)
	must(t, b.release(t, 0))
	checkSealed(t, b.x, 3, 2, 5, 1)
}

func TestSealedOfVeryMany(t *testing.T) {
	l := make([]api.Segment, maxSegs)
	want := make([]int, maxSegs)
	for i := range l {
		// 77 and 256 have no factor in common.
		seq := 77 * i % 256
		l[i] = api.Segment{Kind: sealed, Seq: uint64(seq + 1)}
		want[seq] = i
	}
	b := loaded(t, 300, l...)
	checkSealed(t, b.x, want...)
}

func TestSealedAfterNextHasWrappedAround(t *testing.T) {
	// The first two opened get the numbers 2^64 - 1 and 0, the others those that some have already.
	l := make([]api.Segment, 40)
	for i := range 20 {
		l[2*i] = api.Segment{Kind: sealed, Seq: uint64(20 - i)}
	}
	b := loaded(t, math.MaxUint64, l...)
	b.fill(t, 20)
	want := []int{3}
	for i := range 18 {
		x, y := 38-2*i, 5+2*i
		want = append(want, min(x, y), max(x, y))
	}
	want = append(want, 2, 0, 1)
	checkSealed(t, b.x, want...)
	must(t, b.release(t, 3), b.release(t, 1))
	checkSealed(t, b.x, want[1:len(want)-1]...)
}

func TestASmallTableAfterNextHasWrappedAround(t *testing.T) {
	b := loaded(t, math.MaxUint64, api.Segment{Wear: 9}, api.Segment{Kind: sealed, Seq: 1}, api.Segment{}, api.Segment{Wear: 5})
	b.opens(t, 2, math.MaxUint64)
	must(t, b.seal(t))
	b.opens(t, 3, 0)
	checkCurrent(t, b.x, 3, true)
	must(t, b.seal(t))
	checkSealed(t, b.x, 3, 1, 2)
	b.opens(t, 0, 1)
	must(t, b.seal(t))
	checkSealed(t, b.x, 3, 0, 1, 2)
	must(t, b.release(t, 3))
	checkRows(t, b.x, api.Segment{Kind: sealed, Seq: 1, Wear: 10}, api.Segment{Kind: sealed, Seq: 1}, api.Segment{Kind: sealed, Seq: math.MaxUint64, Wear: 1}, api.Segment{Wear: 6})
}

func TestAskingChangesNothing(t *testing.T) {
	b := pair(t, 5)
	b.fill(t, 3)
	must(t, b.release(t, 1))
	b.opens(t, 3, 4)
	for range 100 {
		b.x.Current()
		b.x.Free()
		b.x.Sealed()
		b.x.Rows()
		b.x.Next()
		b.check(t, "asked")
	}
	must(t, b.seal(t))
	b.opens(t, 4, 5)
}

func TestNilTable(t *testing.T) {
	var x *table.Table
	for range 2 {
		if seg, seq, err := x.Open(); seg != 0 || seq != 0 || err != api.ErrNone {
			t.Errorf("Open returns %d, %d, %d", seg, seq, err)
		}
		answers(t, []api.Errno{x.Seal(), x.Release(0)}, api.ErrNone, api.ErrNone)
		for _, seg := range outside(1) {
			answers(t, []api.Errno{x.Release(seg)}, api.ErrNone)
		}
		checkCurrent(t, x, 0, false)
		if x.Free() != 0 || len(x.Sealed()) != 0 || len(x.Rows()) != 0 || x.Next() != 0 {
			t.Errorf("a nil table has %d free, Sealed %v, Rows %v, Next %d", x.Free(), x.Sealed(), x.Rows(), x.Next())
		}
	}
}

func TestTableThatNobodyMade(t *testing.T) {
	var x table.Table
	_, _, err := x.Open()
	answers(t, []api.Errno{err, x.Seal(), x.Release(0), x.Release(-1)}, api.ErrFull, api.ErrNone, api.ErrArg, api.ErrArg)
	checkCurrent(t, &x, 0, false)
	if x.Free() != 0 || len(x.Sealed()) != 0 || len(x.Rows()) != 0 || x.Next() != 0 {
		t.Errorf("it has %d free, Sealed %v, Rows %v, Next %d", x.Free(), x.Sealed(), x.Rows(), x.Next())
	}
}

// P11.4

func TestNumbersIncreaseAndFreeSegmentsAreOpened(t *testing.T) {
	d := dice(2)
	for _, n := range []int{1, 2, 5, 30} {
		x := create(t, n)
		last, opened := uint64(0), 0
		for range 3000 {
			before := x.Rows()
			seg, seq, err := x.Open()
			if err == api.OK {
				opened++
				if seq <= last || before[seg].Kind != free || x.Next() != seq+1 {
					t.Errorf("behind %d, segment %d, %v, gets %d, and Next is %d", last, seg, before[seg], seq, x.Next())
				}
				last = seq
			}
			if d.roll(2) == 0 {
				x.Seal()
			}
			x.Release(d.roll(n))
		}
		if opened < 500 {
			t.Errorf("only %d were opened", opened)
		}
	}
}

func TestAnyCalls(t *testing.T) {
	d := dice(3)
	for _, n := range []int{0, 1, 2, 3, 7, 40} {
		for range 10 {
			b := pair(t, n)
			for range 200 {
				b.step(t, &d)
			}
		}
	}
}

func TestAnyCallsOnLoadedTables(t *testing.T) {
	d := dice(4)
	for _, n := range []int{1, 2, 3, 7, 40, 256} {
		for range 10 {
			l, next := d.right(n)
			b := loaded(t, next, l...)
			for range 100 {
				b.step(t, &d)
			}
		}
	}
}

func TestAnyCallsWhileNextWrapsAroundAndWearEnds(t *testing.T) {
	d := dice(5)
	for range 60 {
		n := 1 + d.roll(20)
		l := make([]api.Segment, n)
		for i := range l {
			l[i].Wear = maxWear - uint32(d.roll(4))
			if d.roll(3) == 0 {
				l[i].Kind, l[i].Seq = sealed, uint64(n-i)
			}
		}
		b := loaded(t, math.MaxUint64-uint64(d.roll(5)), l...)
		for range 200 {
			b.step(t, &d)
		}
	}
}

// P11.5

// checkWorn checks that the Wear of two segments differs by one at most.
func checkWorn(t *testing.T, x *table.Table) {
	t.Helper()
	least, most := uint32(maxWear), uint32(0)
	for _, s := range x.Rows() {
		least, most = min(least, s.Wear), max(most, s.Wear)
	}
	if most > least+1 {
		t.Fatalf("Wear is from %d to %d", least, most)
	}
}

func TestWearIsEven(t *testing.T) {
	for _, n := range []int{1, 2, 3, 10, 256} {
		// So many are sealed at a time, and the one that was opened first is released.
		for _, held := range []int{0, min(1, n-1), n / 2, n - 1} {
			x := create(t, n)
			for range 4*n + 10 {
				_, _, err := x.Open()
				must(t, err, x.Seal())
				checkWorn(t, x)
				if l := x.Sealed(); len(l) > held {
					must(t, x.Release(l[0]))
				}
			}
		}
	}
}

func TestWearIsEvenHoweverManyAreHeld(t *testing.T) {
	d := dice(6)
	for range 100 {
		n := 1 + d.roll(12)
		x := create(t, n)
		for range 300 {
			if x.Free() > 0 && d.roll(2) == 0 {
				_, _, err := x.Open()
				must(t, err, x.Seal())
				checkWorn(t, x)
			} else if l := x.Sealed(); len(l) > 0 {
				must(t, x.Release(l[0]))
			}
		}
	}
}

// P11.6

func TestLoadOfATableYieldsTheSame(t *testing.T) {
	d := dice(7)
	for _, n := range []int{0, 1, 2, 5, 40} {
		b := pair(t, n)
		for range 150 {
			b.step(t, &d)
			x, err := table.Load(b.x.Rows(), b.x.Next())
			if err != api.OK {
				t.Fatalf("Load of %v, %d returns %d", b.x.Rows(), b.x.Next(), err)
			}
			b.r.check(t, "loaded", x)
			// From here on, the loaded one goes on in place of the other.
			b.x = x
		}
	}
}

func TestLoadOfATableGoesOnTheSame(t *testing.T) {
	d := dice(8)
	for _, n := range []int{1, 3, 12} {
		b := pair(t, n)
		for range 60 {
			b.step(t, &d)
			again := loaded(t, b.x.Next(), b.x.Rows()...)
			one := d
			two := d
			for range 10 {
				b.step(t, &one)
				again.step(t, &two)
			}
			again.r.check(t, "the other", b.x)
		}
	}
}

func TestATableWhoseNextHasWrappedAroundIsNotLoaded(t *testing.T) {
	b := loaded(t, math.MaxUint64, api.Segment{}, api.Segment{})
	b.opens(t, 0, math.MaxUint64)
	checkLoadRefuses(t, b.x.Next(), b.x.Rows()...)
	must(t, b.seal(t))
	b.opens(t, 1, 0)
	checkLoadRefuses(t, b.x.Next(), b.x.Rows()...)
}

// The chapter's example

func TestExample(t *testing.T) {
	b := pair(t, 2)
	b.opens(t, 0, 1)
	b.refuses(t, api.ErrThere)
	must(t, b.seal(t))
	b.opens(t, 1, 2)
	must(t, b.release(t, 0), b.seal(t))
	b.opens(t, 0, 3)
}

// Rules 2 to 6 of the document

func TestCallsThatAreRefusedChangeNothing(t *testing.T) {
	for _, b := range []both{
		pair(t, 0),
		pair(t, 3),
		loaded(t, 5, api.Segment{Kind: sealed, Seq: 4, Wear: 2}, api.Segment{Kind: sealed, Seq: 3, Wear: 1}),
		loaded(t, 5, api.Segment{Kind: open, Seq: 4, Wear: 2}, api.Segment{Wear: 1}),
		loaded(t, math.MaxUint64, api.Segment{Kind: open, Seq: 4, Wear: maxWear}),
	} {
		rows, next := b.x.Rows(), b.x.Next()
		if _, there := b.x.Current(); there || b.x.Free() == 0 {
			b.open(t)
		}
		if _, there := b.x.Current(); !there {
			answers(t, []api.Errno{b.seal(t)}, api.ErrNone)
		}
		for seg, s := range rows {
			if s.Kind != sealed {
				answers(t, []api.Errno{b.release(t, seg)}, api.ErrNone)
			}
		}
		for _, seg := range outside(len(rows)) {
			answers(t, []api.Errno{b.release(t, seg)}, api.ErrArg)
		}
		checkRows(t, b.x, rows...)
		if b.x.Next() != next {
			t.Errorf("Next is %d, not %d", b.x.Next(), next)
		}
	}
}

// guarded returns the segments as a part of a greater array, and that array.
func guarded(l []api.Segment) (inner, array []api.Segment) {
	fence := api.Segment{Kind: sealed, Seq: 1, Wear: 77}
	array = slices.Concat([]api.Segment{fence, fence}, l, slices.Repeat([]api.Segment{fence}, 300))
	return array[2 : 2+len(l) : len(array)], array
}

// spoil changes all segments, those behind the length too.
func spoil(l []api.Segment) {
	l = l[:cap(l)]
	for i := range l {
		l[i] = api.Segment{Kind: l[i].Kind ^ 1, Seq: l[i].Seq + 5, Wear: l[i].Wear + 9}
	}
}

func TestNoSegmentsAreNilOnes(t *testing.T) {
	for _, l := range [][]api.Segment{nil, {}, make([]api.Segment, 0, 300)} {
		checkLoads(t, 1, l...)
		checkLoads(t, 7, l...)
		checkLoadRefuses(t, 0, l...)
	}
}

func TestSegmentsHandedInAreNotChanged(t *testing.T) {
	d := dice(9)
	for range 300 {
		l := make([]api.Segment, d.roll(8))
		for i := range l {
			l[i] = d.segment(20)
		}
		next := uint64(20)
		if d.roll(2) == 0 {
			l, next = d.right(d.roll(20))
		}
		inner, array := guarded(l)
		before := slices.Clone(array)
		x, err := table.Load(inner, next)
		if err == api.OK {
			b := both{x, refer(l, next)}
			for range 20 {
				b.step(t, &d)
			}
		}
		if !slices.Equal(array, before) {
			t.Errorf("the segments %v were changed", l)
		}
	}
}

func TestSegmentsBeyondTheLengthAreNotRead(t *testing.T) {
	for _, n := range []int{0, 1, 255, 256} {
		inner, _ := guarded(make([]api.Segment, n))
		checkLoads(t, 1, inner...)
		inner[:n+1][n] = api.Segment{Kind: 3, Seq: 9}
		checkLoads(t, 1, inner...)
	}
}

func TestSegmentsHandedInAreNotKept(t *testing.T) {
	d := dice(10)
	for range 300 {
		l, next := d.right(d.roll(20))
		inner, array := guarded(l)
		x, err := table.Load(inner, next)
		must(t, err)
		b := both{x, refer(l, next)}
		spoil(array)
		b.check(t, "behind a change of what was handed in")
		for range 20 {
			b.step(t, &d)
			spoil(array)
			b.check(t, "behind a change of what was handed in")
		}
	}
}

func TestResultsAreTheCallersOwn(t *testing.T) {
	d := dice(11)
	for _, n := range []int{1, 2, 5, 30} {
		b := pair(t, n)
		for range 100 {
			b.step(t, &d)
			rows, more := b.x.Rows(), b.x.Rows()
			seals, others := b.x.Sealed(), b.x.Sealed()
			spoil(rows)
			for i := range seals[:cap(seals)] {
				seals[:cap(seals)][i] = -7
			}
			if !slices.Equal(more, b.r.rows()) || !slices.Equal(others, b.r.order()) {
				t.Errorf("two results share memory: %v, %v", more, others)
			}
			b.check(t, "behind a change of results")
		}
	}
}

func TestResultsStayAsTheyWere(t *testing.T) {
	b := pair(t, 3)
	b.fill(t, 2)
	rows, seals := b.x.Rows(), b.x.Sealed()
	must(t, b.release(t, 0))
	b.fill(t, 2)
	must(t, b.release(t, 1))
	b.open(t)
	if !slices.Equal(rows, []api.Segment{{Kind: sealed, Seq: 1, Wear: 1}, {Kind: sealed, Seq: 2, Wear: 1}, {}}) || !slices.Equal(seals, []int{0, 1}) {
		t.Errorf("results became %v, %v", rows, seals)
	}
}

func TestSameCallsSameResults(t *testing.T) {
	// Each is checked against its own reference at each step; between the steps of one, the other makes some.
	one, other := dice(12), dice(12)
	a, b := pair(t, 6), pair(t, 6)
	for range 500 {
		a.step(t, &one)
		b.check(t, "the other")
		b.step(t, &other)
		a.r.check(t, "the other", b.x)
	}
}

func TestSeveralAtATime(t *testing.T) {
	done := make(chan []api.Segment)
	for range 8 {
		go func() {
			d := dice(13)
			x, _ := table.New(9)
			for range 2000 {
				switch d.roll(3) {
				case 0:
					x.Open()
				case 1:
					x.Seal()
				default:
					x.Release(d.roll(9))
				}
			}
			done <- x.Rows()
		}()
	}
	first := <-done
	for range 7 {
		if l := <-done; !slices.Equal(l, first) {
			t.Errorf("the same calls leave %v and %v", first, l)
		}
	}
}
