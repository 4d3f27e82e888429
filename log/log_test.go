package log_test

import (
	"bytes"
	"math"
	"slices"
	"testing"

	"pumice/api"
	"pumice/flash"
	"pumice/log"
	"pumice/page"
	"pumice/record"
	"pumice/table"
)

// outside returns numbers that are none of 0 to n - 1.
func outside(n int) []int {
	return []int{math.MinInt, math.MinInt32, -256, -2, -1, n, n + 1, n + 64, n + 256, math.MaxInt32, math.MaxInt - 1, math.MaxInt}
}

func device(t *testing.T, segs, pages int) *flash.Flash {
	t.Helper()
	f, err := flash.New(segs, pages)
	if err != api.OK {
		t.Fatalf("there is no flash of %d segments of %d pages", segs, pages)
	}
	return f
}

func tableOf(t *testing.T, l []api.Segment, next uint64) *table.Table {
	t.Helper()
	x, err := table.Load(l, next)
	if err != api.OK {
		t.Fatalf("there is no table of %v, %d", l, next)
	}
	return x
}

func blank(t *testing.T, segs int) *table.Table {
	t.Helper()
	return tableOf(t, make([]api.Segment, segs), 1)
}

func create(t *testing.T, f *flash.Flash, from int, x *table.Table) *log.Log {
	t.Helper()
	l, err := log.New(f, from, x)
	if l == nil || err != api.OK {
		t.Fatalf("New with from %d returns %v, %d", from, l, err)
	}
	return l
}

// sized returns a NoteWrite of one to three pages, of which one or two are full.
func sized(seq uint64, pages int) api.Note {
	n := api.Note{Kind: api.NoteWrite, Addr: uint32(seq) + 7, Seq: seq, Key: api.Key{N: 5}}
	n.Key.Sum[31] = byte(seq)
	n.Data = make([]byte, []int{0, 74, 199, 300}[pages])
	for i := range n.Data {
		n.Data[i] = byte(uint64(i)*31 + seq)
	}
	return n
}

func done(seq uint64) api.Note {
	return api.Note{Kind: api.NoteDone, Seq: seq}
}

// at returns a location.
func at(seg, page, pages int) api.Place {
	return api.Place{Seg: seg, Page: page, Pages: pages}
}

// must checks that calls returned OK.
func must(t *testing.T, got ...api.Errno) {
	t.Helper()
	if !slices.Equal(got, make([]api.Errno, len(got))) {
		t.Errorf("answers are %d, not all 0", got)
	}
}

func checkHead(t *testing.T, l *log.Log, wantSeq uint64, want int) {
	t.Helper()
	if seq, page := l.Head(); seq != wantSeq || page != want {
		t.Errorf("Head returns %d, %d; not %d, %d", seq, page, wantSeq, want)
	}
}

func checkRead(t *testing.T, l *log.Log, p api.Place, want api.Note) {
	t.Helper()
	if n, err := l.Read(p); !sameNote(n, want) || err != api.OK {
		t.Errorf("Read(%v) returns %v, %d; not %v", p, n, err, want)
	}
}

func checkReadRefuses(t *testing.T, l *log.Log, p api.Place, want api.Errno) {
	t.Helper()
	if n, err := l.Read(p); !sameNote(n, api.Note{}) || err != want {
		t.Errorf("Read(%v) returns %v, %d; not the zero note, %d", p, n, err, want)
	}
}

func checkScan(t *testing.T, l *log.Log, seg, from int, wantSeq uint64, want ...api.Entry) {
	t.Helper()
	if seq, all, err := l.Scan(seg, from); seq != wantSeq || !sameEntries(all, want) || err != api.OK {
		t.Errorf("Scan(%d, %d) returns %d, %v, %d; not %d, %v", seg, from, seq, all, err, wantSeq, want)
	}
}

func checkScanRefuses(t *testing.T, l *log.Log, seg, from int, want api.Errno) {
	t.Helper()
	if seq, all, err := l.Scan(seg, from); seq != 0 || len(all) != 0 || err != want {
		t.Errorf("Scan(%d, %d) returns %d, %v, %d; not 0, nothing, %d", seg, from, seq, all, err, want)
	}
}

func checkPage(t *testing.T, f *flash.Flash, seg, at int, want []byte) {
	t.Helper()
	if b, err := f.Read(seg, at); !bytes.Equal(b, want) || err != api.OK {
		t.Errorf("page %d of segment %d is %v, %d; not %v", at, seg, b, err, want)
	}
}

// kinds checks which segments are free, open and sealed.
func (b both) kinds(t *testing.T, want ...uint8) {
	t.Helper()
	var got []uint8
	for _, s := range b.t.Rows() {
		got = append(got, s.Kind)
	}
	if !slices.Equal(got, want) {
		t.Errorf("the kinds of the segments are %v, not %v", got, want)
	}
}

// counts checks how many operations the flash has done.
func (b both) counts(t *testing.T, want int) {
	t.Helper()
	if b.f.Done() != want {
		t.Errorf("%d operations were done, not %d", b.f.Done(), want)
	}
}

// The kinds of segments, in short.
const (
	free   = api.SegFree
	open   = api.SegOpen
	sealed = api.SegSealed
)

// P12.1: New

func TestNew(t *testing.T) {
	for _, pages := range []int{2, 3, 8, 64} {
		for _, segs := range []int{0, 1, 2, 20, 256} {
			for _, from := range []int{0, 1, 2, segs - 1, segs} {
				for _, rows := range []int{0, 1, segs - from - 1, segs - from} {
					if from < 0 || rows < 0 || from+rows > segs {
						continue
					}
					f := device(t, segs, pages)
					l := create(t, f, from, blank(t, rows))
					checkHead(t, l, 1, 1)
					if f.Done() != 0 {
						t.Errorf("New does %d operations", f.Done())
					}
				}
			}
		}
	}
}

func TestNewWithNil(t *testing.T) {
	check := func(f *flash.Flash, from int, x *table.Table) {
		t.Helper()
		if l, err := log.New(f, from, x); l != nil || err != api.ErrNone {
			t.Errorf("New(%v, %d, %v) returns %v, %d", f, from, x, l, err)
		}
	}
	for _, from := range append(outside(4), 0, 1, 3) {
		check(nil, from, nil)
		check(nil, from, blank(t, 0))
		check(nil, from, blank(t, 3))
		check(device(t, 4, 4), from, nil)
		check(device(t, 4, 1), from, nil)
		check(device(t, 0, 4), from, nil)
	}
}

func TestNewRefuses(t *testing.T) {
	check := func(f *flash.Flash, from int, x *table.Table) {
		t.Helper()
		if l, err := log.New(f, from, x); l != nil || err != api.ErrArg {
			t.Errorf("New with from %d, on %d segments of %d pages, with %d rows, returns %v, %d", from, f.Segs(), f.Pages(), len(x.Rows()), l, err)
		}
	}
	for _, segs := range []int{0, 1, 4, 255, 256} {
		for _, rows := range []int{0, 1, 3, segs} {
			if rows > segs {
				continue
			}
			// No more than segs - rows segments may be ahead.
			for _, from := range outside(segs - rows + 1) {
				check(device(t, segs, 4), from, blank(t, rows))
			}
			create(t, device(t, segs, 4), segs-rows, blank(t, rows))
			for _, from := range []int{-1, 0, segs - rows, segs - rows + 1} {
				check(device(t, segs, 1), from, blank(t, rows))
			}
		}
		if segs < 256 {
			check(device(t, segs, 2), 0, blank(t, segs+1))
		}
	}
	for _, from := range append(outside(1), 0) {
		check(device(t, 3, 4), from, blank(t, 256))
	}
}

func TestNewReadsAndWritesNothing(t *testing.T) {
	b := pair(t, 1, 3, 4)
	for seq := range uint64(4) {
		b.append(t, sized(seq, 1))
	}
	rows, next, ops, pages := b.t.Rows(), b.t.Next(), b.f.Done(), everyPage(b.f)
	check := func(what string) {
		t.Helper()
		create(t, b.f, 1, b.t)
		create(t, b.f, 0, blank(t, 4))
		if !slices.Equal(b.t.Rows(), rows) || b.t.Next() != next || b.f.Done() != ops {
			t.Errorf("New %s changes the table, or does an operation", what)
		}
	}
	check("with the power on")
	b.f.Cut(0)
	check("before the power goes off")
	if b.f.Dead() {
		t.Error("New takes the power away")
	}
	b.f.Barrier()
	check("with the power off")
	b.f.Crash(slices.Repeat([]int{everything}, 20))
	if !slices.EqualFunc(everyPage(b.f), pages, bytes.Equal) {
		t.Error("New changes the flash")
	}
}

func TestLogsAreIndependent(t *testing.T) {
	one, other := pair(t, 0, 2, 4), pair(t, 0, 2, 4)
	one.appends(t, sized(1, 1), at(0, 1, 1))
	other.check(t, "the other")
	other.appends(t, sized(2, 2), at(0, 1, 2))
	one.check(t, "the one")
	one.appends(t, sized(3, 2), at(0, 2, 2))
	other.check(t, "the other")
}

func TestTwoLogsOnOneFlash(t *testing.T) {
	f := device(t, 5, 3)
	one, other := create(t, f, 0, blank(t, 2)), create(t, f, 2, blank(t, 3))
	for seq := range uint64(4) {
		one.Append(sized(seq, 1))
		other.Append(sized(10+seq, 1))
	}
	for i := range 2 {
		first := api.Entry{Place: at(i, 1, 1), Note: sized(uint64(2*i), 1)}
		second := api.Entry{Place: at(i, 2, 1), Note: sized(uint64(2*i+1), 1)}
		checkScan(t, one, i, 1, uint64(i+1), first, second)
		first.Note, second.Note = sized(uint64(10+2*i), 1), sized(uint64(11+2*i), 1)
		checkScan(t, other, i, 1, uint64(i+1), first, second)
	}
}

// P12.1: a log over a table that has an open segment already

func TestAnOpenSegmentCountsAsFull(t *testing.T) {
	b := loaded(t, 2, 5, []api.Segment{{}, {Kind: open, Seq: 3}, {Wear: 1}}, 4)
	checkHead(t, b.l, 4, 1)
	b.counts(t, 0)
	b.appends(t, sized(1, 1), at(0, 1, 1))
	b.kinds(t, open, sealed, free)
	// The Barrier of Close, the Erase, its Barrier, the first page, the note.
	b.counts(t, 5)
	checkHead(t, b.l, 4, 2)
}

func TestAnOpenSegmentCountsAsFullForEachNote(t *testing.T) {
	for pages := 1; pages <= 3; pages++ {
		b := loaded(t, 0, 5, []api.Segment{{Kind: open, Seq: 1}, {}}, 2)
		b.appends(t, sized(1, pages), at(1, 1, pages))
		b.kinds(t, sealed, open)
	}
}

func TestAnOpenSegmentWithTheNumberZeroCountsAsFull(t *testing.T) {
	b := loaded(t, 0, 5, make([]api.Segment, 3), math.MaxUint64)
	for _, x := range []*table.Table{b.t, b.r.t} {
		x.Open()
		x.Seal()
		x.Open()
	}
	b = b.renew(t)
	checkHead(t, b.l, 1, 1)
	b.appends(t, sized(1, 1), at(2, 1, 1))
	b.kinds(t, sealed, sealed, open)
}

func TestAnOpenSegmentIsClosed(t *testing.T) {
	b := loaded(t, 0, 5, []api.Segment{{Kind: open, Seq: 1}, {}}, 2)
	must(t, b.close(t))
	b.kinds(t, sealed, free)
	b.counts(t, 1)
}

func TestAnOpenSegmentWithNoOtherFree(t *testing.T) {
	b := loaded(t, 0, 5, []api.Segment{{Kind: open, Seq: 1}, {Kind: sealed, Seq: 2}}, 3)
	b.refuses(t, sized(1, 1), api.ErrFull)
	b.kinds(t, sealed, sealed)
	b.release(0)
	b.appends(t, sized(1, 1), at(0, 1, 1))
}

func TestASecondLogOverTheSameTable(t *testing.T) {
	b := pair(t, 1, 3, 5)
	b.appends(t, sized(1, 1), at(0, 1, 1))
	b = b.renew(t)
	checkHead(t, b.l, 2, 1)
	checkRead(t, b.l, at(0, 1, 1), sized(1, 1))
	b.appends(t, sized(2, 1), at(1, 1, 1))
	b.kinds(t, sealed, open, free)
	b = b.renew(t)
	must(t, b.close(t))
	b.kinds(t, sealed, sealed, free)
}

// P12.2: what Append stores

func TestThePagesOfASegment(t *testing.T) {
	b := pair(t, 2, 2, 4)
	n := sized(9, 2)
	b.appends(t, done(5), at(0, 1, 1))
	b.appends(t, n, at(0, 2, 2))
	erased := bytes.Repeat([]byte{255}, pageSize)
	zeros := func(n int) []byte { return make([]byte, n) }
	checkPage(t, b.f, 2, 0, slices.Concat([]byte{193, 8, 1}, zeros(124), []byte{90}))
	checkPage(t, b.f, 2, 1, slices.Concat([]byte{194, 9, 3, 5}, zeros(123), []byte{90}))
	text := slices.Concat([]byte{1, 16, 0, 0, 0, 9}, zeros(7+31), []byte{9, 5, 0, 0, 0, 199, 0}, n.Data)
	checkPage(t, b.f, 2, 2, slices.Concat([]byte{66, 125}, text[:125], []byte{90}))
	checkPage(t, b.f, 2, 3, slices.Concat([]byte{130, 125}, text[125:], []byte{90}))
	for _, seg := range []int{0, 1, 3, 4} {
		for page := range 4 {
			checkPage(t, b.f, seg, page, erased)
		}
	}
}

func TestTheFirstPageHasTheSeq(t *testing.T) {
	for _, seq := range []uint64{1, 2, 255, 256, 0x0102030405060708, 1 << 32, 1 << 63, math.MaxUint64 - 1, math.MaxUint64} {
		b := loaded(t, 1, 3, make([]api.Segment, 2), seq)
		b.appends(t, done(1), at(0, 1, 1))
		checkPage(t, b.f, 1, 0, opened(seq))
		checkScan(t, b.l, 0, 1, seq, api.Entry{Place: at(0, 1, 1), Note: done(1)})
		checkHead(t, b.l, seq, 2)
	}
}

func TestNumbersThatWrapAround(t *testing.T) {
	b := loaded(t, 0, 2, make([]api.Segment, 3), math.MaxUint64)
	b.appends(t, done(1), at(0, 1, 1))
	b.appends(t, done(2), at(1, 1, 1))
	b.appends(t, done(3), at(2, 1, 1))
	checkRead(t, b.l, at(1, 1, 1), done(2))
	checkScan(t, b.l, 1, 1, 0)
	checkScan(t, b.l, 2, 1, 1, api.Entry{Place: at(2, 1, 1), Note: done(3)})
}

func TestNotesOfEachKind(t *testing.T) {
	key := api.Key{Sum: api.Sum(bytes.Repeat([]byte{200}, 32)), N: math.MaxUint32}
	long := bytes.Repeat([]byte{255}, 300)
	for _, n := range []api.Note{
		{Kind: api.NoteWrite},
		{Kind: api.NoteWrite, Data: []byte{0}},
		{Kind: api.NoteWrite, Addr: math.MaxUint32, Seq: math.MaxUint64, Key: key, Data: long},
		{Kind: api.NoteTrim},
		{Kind: api.NoteTrim, Addr: math.MaxUint32, Seq: math.MaxUint64},
		{Kind: api.NoteDone},
		{Kind: api.NoteDone, Seq: math.MaxUint64},
		{Kind: api.NoteMove, Data: []byte{0}},
		{Kind: api.NoteMove, Key: key, Data: long},
	} {
		b := pair(t, 0, 1, 5)
		p := at(0, 1, record.Pages(n))
		b.appends(t, n, p)
		checkRead(t, b.l, p, n)
		checkScan(t, b.l, 0, 1, 1, api.Entry{Place: p, Note: n})
	}
}

func TestNotesOfEachLength(t *testing.T) {
	for size := range 301 {
		n := api.Note{Kind: api.NoteWrite, Seq: 1, Data: bytes.Repeat([]byte{byte(size)}, size)}
		f := device(t, 1, 4)
		l := create(t, f, 0, blank(t, 1))
		want := at(0, 1, (51+size+124)/125)
		if p, err := l.Append(n); p != want || err != api.OK {
			t.Errorf("Append with %d bytes returns %v, %d; not %v", size, p, err, want)
		}
		checkRead(t, l, want, n)
	}
}

// P12.2: notes that are refused

// invalid returns notes that are not valid.
func invalid() []api.Note {
	return []api.Note{
		{},
		{Kind: 5, Seq: 1},
		{Kind: 255},
		{Kind: api.NoteWrite, Data: make([]byte, 301)},
		{Kind: api.NoteWrite, Data: make([]byte, 1<<16)},
		{Kind: api.NoteTrim, Data: []byte{0}},
		{Kind: api.NoteTrim, Key: api.Key{N: 1}},
		{Kind: api.NoteDone, Addr: 1},
		{Kind: api.NoteMove},
		{Kind: api.NoteMove, Seq: 1, Data: []byte{0}},
		{Kind: api.NoteMove, Data: make([]byte, 301)},
	}
}

func TestAppendOfANoteThatIsNotValid(t *testing.T) {
	for _, pages := range []int{2, 5, 64} {
		for _, n := range invalid() {
			b := pair(t, 0, 1, pages)
			b.refuses(t, n, api.ErrArg)
			b.kinds(t, free)
			b.counts(t, 0)
			b.append(t, done(1))
			b.refuses(t, n, api.ErrArg)
			b.kinds(t, open)
			b.counts(t, 4)
			b.cut(0)
			b.barrier()
			b.refuses(t, n, api.ErrArg)
		}
	}
	b := pair(t, 0, 0, 2)
	for _, n := range invalid() {
		b.refuses(t, n, api.ErrArg)
	}
}

func TestAppendOfAsManyPagesAsASegmentHas(t *testing.T) {
	for pages := 2; pages <= 4; pages++ {
		b := pair(t, 1, 4, pages)
		for seg := range 3 {
			b.appends(t, sized(uint64(seg), pages-1), at(seg, 1, pages-1))
			checkHead(t, b.l, uint64(seg+2), 1)
		}
		for seg := range 3 {
			checkRead(t, b.l, at(seg, 1, pages-1), sized(uint64(seg), pages-1))
		}
	}
}

func TestAppendOfMorePagesThanASegmentHas(t *testing.T) {
	for pages := 2; pages <= 3; pages++ {
		for many := pages; many <= 3; many++ {
			b := pair(t, 1, 1, pages)
			b.refuses(t, sized(1, many), api.ErrLong)
			b.kinds(t, free)
			b.counts(t, 0)
			b.append(t, done(1))
			ops := b.f.Done()
			// Neither is the open segment closed, nor does it matter that none is free, nor that the power is off.
			b.refuses(t, sized(1, many), api.ErrLong)
			b.kinds(t, open)
			b.counts(t, ops)
			b.close(t)
			b.refuses(t, sized(1, many), api.ErrLong)
			b.cut(0)
			b.barrier()
			b.refuses(t, sized(1, many), api.ErrLong)
		}
	}
	b := pair(t, 0, 0, 3)
	b.refuses(t, sized(1, 3), api.ErrLong)
	b.refuses(t, sized(1, 2), api.ErrFull)
}

func TestAppendBySegmentsLeftover(t *testing.T) {
	for left := range 4 {
		for many := 1; many <= 3; many++ {
			b := pair(t, 0, 2, 6)
			for i := range 5 - left {
				b.appends(t, sized(uint64(i), 1), at(0, 1+i, 1))
			}
			n := sized(20, many)
			if many <= left {
				b.appends(t, n, at(0, 6-left, many))
				b.kinds(t, open, free)
				continue
			}
			b.appends(t, n, at(1, 1, many))
			b.kinds(t, sealed, open)
			// What is left of a closed segment is left for good.
			for page := 6 - left; page < 6; page++ {
				checkPage(t, b.f, 0, page, bytes.Repeat([]byte{255}, pageSize))
			}
			b.appends(t, done(1), at(1, 1+many, 1))
		}
	}
}

func TestAppendWithNoSegmentFree(t *testing.T) {
	b := pair(t, 1, 2, 4)
	b.appends(t, sized(1, 3), at(0, 1, 3))
	b.appends(t, sized(2, 2), at(1, 1, 2))
	b.refuses(t, sized(3, 2), api.ErrFull)
	// The open segment was closed, so that smaller notes have no room either.
	b.kinds(t, sealed, sealed)
	checkHead(t, b.l, 3, 1)
	b.refuses(t, done(3), api.ErrFull)
	b.release(1)
	b.appends(t, done(3), at(1, 1, 1))
	checkScan(t, b.l, 1, 1, 3, api.Entry{Place: at(1, 1, 1), Note: done(3)})
	checkPage(t, b.f, 2, 2, bytes.Repeat([]byte{255}, pageSize))
}

func TestAppendWithoutSegments(t *testing.T) {
	b := pair(t, 3, 0, 4)
	b.refuses(t, done(1), api.ErrFull)
	b.cut(0)
	b.barrier()
	b.refuses(t, done(1), api.ErrFull)
	must(t, b.close(t))
}

func TestWhichErrorOfAppendComesFirst(t *testing.T) {
	b := pair(t, 0, 1, 3)
	b.append(t, done(1))
	b.cut(0)
	b.refuses(t, done(2), api.ErrDead)
	// The Barrier of Close comes ahead of asking for a free segment.
	b.refuses(t, sized(2, 2), api.ErrDead)
	b.kinds(t, open)
	b.crash(t)
	b.close(t)
	b.cut(0)
	b.barrier()
	b.refuses(t, sized(2, 2), api.ErrFull)
}

func TestTheSegmentIsTheTables(t *testing.T) {
	b := loaded(t, 2, 2, []api.Segment{{Wear: 2}, {Wear: 1}, {Wear: 0}, {Wear: 4}}, 40)
	for i, seg := range []int{2, 1, 0, 3} {
		b.appends(t, done(uint64(i)), at(seg, 1, 1))
		checkScan(t, b.l, seg, 1, uint64(40+i), api.Entry{Place: at(seg, 1, 1), Note: done(uint64(i))})
	}
}

func TestASegmentIsErasedAheadOfItsFirstPage(t *testing.T) {
	b := pair(t, 1, 1, 4)
	for seq := range uint64(5) {
		b.appends(t, sized(seq, 3), at(0, 1, 3))
		must(t, b.close(t))
		b.release(0)
	}
	if b.f.Wear(1) != 5 {
		t.Errorf("the segment was erased %d times", b.f.Wear(1))
	}
	b.appends(t, done(1), at(0, 1, 1))
	for page := 2; page < 4; page++ {
		checkPage(t, b.f, 1, page, bytes.Repeat([]byte{255}, pageSize))
	}
}

func TestASegmentThatOthersWroteToIsErased(t *testing.T) {
	b := pair(t, 1, 2, 4)
	for page := range 4 {
		b.program(0, page, bytes.Repeat([]byte{7}, pageSize))
	}
	b.appends(t, sized(1, 2), at(0, 1, 2))
	checkPage(t, b.f, 1, 3, bytes.Repeat([]byte{255}, pageSize))
}

// P12.2: the power goes off

// operations are those of an Append of sized(9, 2) to a log whose segment 0 is open and full.
func operations(f *flash.Flash) []step {
	l := laid(sized(9, 2))
	return []step{
		func() api.Errno { return f.Barrier() },
		func() api.Errno { return f.Erase(2) },
		func() api.Errno { return f.Barrier() },
		func() api.Errno { return f.Program(2, 0, opened(2)) },
		func() api.Errno { return f.Program(2, 1, l[0]) },
		func() api.Errno { return f.Program(2, 2, l[1]) },
	}
}

// aheadOfASegment returns a log of three segments of four pages, behind one segment; the first of them is full, and the second was written to.
func aheadOfASegment(t *testing.T) both {
	t.Helper()
	b := pair(t, 1, 3, 4)
	b.appends(t, sized(1, 3), at(0, 1, 3))
	for page := range 4 {
		b.program(1, page, bytes.Repeat([]byte{byte(page)}, pageSize))
	}
	b.barrier()
	return b
}

func TestTheOrderOfTheOperations(t *testing.T) {
	for cut := range 7 {
		b := aheadOfASegment(t)
		f := b.f.Copy()
		for _, do := range operations(f)[:cut] {
			must(t, do())
		}
		b.cut(cut)
		_, err := b.append(t, sized(9, 2))
		if (err == api.OK) != (cut == 6) {
			t.Errorf("with the power cut behind %d operations, Append returns %d", cut, err)
		}
		if cut < 6 {
			f.Cut(0)
			f.Barrier()
		}
		checkFlash(t, "behind Append", b.f, f)
	}
}

func TestThePowerFailsWhileAnAppendOpensASegment(t *testing.T) {
	for cut, then := range []struct {
		kinds [3]uint8
		seq   uint64 // what Head returns, behind the failure
		page  int
		next  api.Place // where the next note goes, when the power is on again
	}{
		{[3]uint8{open, free, free}, 2, 1, at(1, 1, 1)},
		{[3]uint8{sealed, open, free}, 3, 1, at(2, 1, 1)},
		{[3]uint8{sealed, open, free}, 3, 1, at(2, 1, 1)},
		{[3]uint8{sealed, open, free}, 3, 1, at(2, 1, 1)},
		{[3]uint8{sealed, open, free}, 2, 1, at(1, 1, 1)},
		{[3]uint8{sealed, open, free}, 2, 2, at(1, 2, 1)},
	} {
		for _, fates := range [][]int{nil, slices.Repeat([]int{everything}, 10), {1, 1, 1, 1, 1, 1}} {
			b := aheadOfASegment(t)
			b.cut(cut)
			b.refuses(t, sized(9, 2), api.ErrDead)
			b.kinds(t, then.kinds[:]...)
			checkHead(t, b.l, then.seq, then.page)
			b.counts(t, 6+4+1+cut)
			b.refuses(t, done(3), api.ErrDead)
			b.kinds(t, then.kinds[:]...)
			checkHead(t, b.l, then.seq, then.page)
			b.crash(t, fates...)
			b.kinds(t, then.kinds[:]...)
			checkHead(t, b.l, then.seq, then.page)
			b.appends(t, done(3), then.next)
			checkRead(t, b.l, then.next, done(3))
		}
	}
}

func TestThePowerFailsWhileANoteIsStored(t *testing.T) {
	for cut := range 3 {
		for _, fates := range [][]int{nil, slices.Repeat([]int{everything}, 10)} {
			b := pair(t, 0, 2, 8)
			b.append(t, done(1))
			b.barrier()
			b.cut(cut)
			b.refuses(t, sized(2, 3), api.ErrDead)
			b.kinds(t, open, free)
			checkHead(t, b.l, 1, 2+cut)
			b.crash(t, fates...)
			b.appends(t, done(3), at(0, 2+cut, 1))
			checkRead(t, b.l, at(0, 2+cut, 1), done(3))
			b.appends(t, sized(4, 3), at(0, 3+cut, 3))
			// Behind a note of which a part is there, or was lost, no notes are found.
			first := api.Entry{Place: at(0, 1, 1), Note: done(1)}
			if cut == 0 {
				checkScan(t, b.l, 0, 1, 1, first, api.Entry{Place: at(0, 2, 1), Note: done(3)}, api.Entry{Place: at(0, 3, 3), Note: sized(4, 3)})
			} else {
				checkScan(t, b.l, 0, 1, 1, first)
			}
			checkScan(t, b.l, 0, 3+cut, 1, api.Entry{Place: at(0, 3+cut, 3), Note: sized(4, 3)})
		}
	}
}

func TestPagesOfAFailedNoteUseUpASegment(t *testing.T) {
	b := pair(t, 0, 2, 4)
	b.append(t, done(1))
	b.cut(1)
	b.refuses(t, sized(2, 2), api.ErrDead)
	checkHead(t, b.l, 1, 3)
	b.crash(t)
	// One page is left; the note needs two.
	b.appends(t, sized(2, 2), at(1, 1, 2))
	b.kinds(t, sealed, open)
}

func TestALostFirstPageDoesNotCount(t *testing.T) {
	b := pair(t, 0, 2, 4)
	b.append(t, done(1))
	b.crash(t)
	// The log does not know that its pages were lost; what follows is stored behind them.
	b.appends(t, done(2), at(0, 2, 1))
	checkRead(t, b.l, at(0, 2, 1), done(2))
	checkScan(t, b.l, 0, 1, 0)
}

func TestAPageThatOthersWrote(t *testing.T) {
	b := pair(t, 0, 2, 5)
	b.append(t, done(1))
	b.program(0, 3, bytes.Repeat([]byte{0}, pageSize))
	b.refuses(t, sized(2, 3), api.ErrWritten)
	checkHead(t, b.l, 1, 3)
	b.refuses(t, done(3), api.ErrWritten)
	checkHead(t, b.l, 1, 3)
	b.kinds(t, open, free)
	b.appends(t, sized(4, 3), at(1, 1, 3))
}

// P12.2: Close

func TestCloseWithNoSegmentOpen(t *testing.T) {
	b := pair(t, 0, 2, 4)
	must(t, b.close(t), b.close(t))
	b.counts(t, 0)
	b.append(t, done(1))
	must(t, b.close(t), b.close(t), b.close(t))
	b.counts(t, 5)
	b.kinds(t, sealed, free)
	b.cut(0)
	must(t, b.close(t))
	if b.f.Dead() {
		t.Error("Close does an operation with no segment open")
	}
	b.barrier()
	must(t, b.close(t))
}

func TestCloseMakesEverythingSafe(t *testing.T) {
	b := pair(t, 1, 2, 6)
	b.append(t, sized(1, 2))
	b.append(t, sized(2, 1))
	must(t, b.close(t))
	b.counts(t, 7)
	b.kinds(t, sealed, free)
	checkHead(t, b.l, 2, 1)
	b.crash(t)
	checkScan(t, b.l, 0, 1, 1, api.Entry{Place: at(0, 1, 2), Note: sized(1, 2)}, api.Entry{Place: at(0, 3, 1), Note: sized(2, 1)})
	b.appends(t, done(3), at(1, 1, 1))
}

func TestCloseOfAFullSegment(t *testing.T) {
	b := pair(t, 1, 2, 2)
	b.append(t, done(1))
	must(t, b.close(t))
	b.kinds(t, sealed, free)
	b.counts(t, 5)
}

func TestThePowerFailsAtClose(t *testing.T) {
	for _, fates := range [][]int{nil, slices.Repeat([]int{everything}, 10)} {
		b := pair(t, 1, 2, 4)
		b.append(t, done(1))
		b.cut(0)
		for range 2 {
			if err := b.close(t); err != api.ErrDead {
				t.Errorf("Close returns %d", err)
			}
			b.kinds(t, open, free)
			b.counts(t, 4)
			checkHead(t, b.l, 1, 2)
		}
		b.crash(t, fates...)
		b.appends(t, done(2), at(0, 2, 1))
		must(t, b.close(t))
		b.kinds(t, sealed, free)
	}
}

func TestThePowerFailsAtTheCloseOfAnAppend(t *testing.T) {
	b := pair(t, 1, 2, 4)
	b.append(t, sized(1, 2))
	b.cut(0)
	b.refuses(t, sized(2, 2), api.ErrDead)
	b.kinds(t, open, free)
	checkHead(t, b.l, 1, 3)
	b.crash(t)
	// The segment remained open, with the room that it has.
	b.appends(t, done(3), at(0, 3, 1))
}

func TestThePowerFailsBehindTheBarrierOfClose(t *testing.T) {
	b := pair(t, 1, 2, 4)
	b.append(t, sized(1, 2))
	b.cut(1)
	must(t, b.close(t))
	b.kinds(t, sealed, free)
	b.refuses(t, done(1), api.ErrDead)
	b.kinds(t, sealed, open)
}

// P12.3

func TestReadOfPlacesThatDoNotExist(t *testing.T) {
	b := pair(t, 2, 3, 6)
	for seq := range uint64(15) {
		b.append(t, sized(seq, 1))
	}
	check := func() {
		t.Helper()
		for _, x := range outside(3) {
			checkReadRefuses(t, b.l, at(x, 1, 1), api.ErrArg)
		}
		for _, x := range append(outside(6), 0) {
			checkReadRefuses(t, b.l, at(0, x, 1), api.ErrArg)
			checkReadRefuses(t, b.l, at(0, 1, x), api.ErrArg)
			checkReadRefuses(t, b.l, at(2, x, x), api.ErrArg)
		}
		for page := 1; page < 6; page++ {
			for _, pages := range append(outside(6-page+1), 0) {
				checkReadRefuses(t, b.l, at(1, page, pages), api.ErrArg)
			}
		}
		checkReadRefuses(t, b.l, api.Place{}, api.ErrArg)
	}
	check()
	b.cut(0)
	b.barrier()
	check()
	l := create(t, device(t, 2, 4), 1, blank(t, 0))
	checkReadRefuses(t, l, at(0, 1, 1), api.ErrArg)
}

func TestReadWithThePowerOff(t *testing.T) {
	b := pair(t, 0, 1, 6)
	b.append(t, sized(1, 1))
	b.barrier()
	b.cut(0)
	checkRead(t, b.l, at(0, 1, 1), sized(1, 1))
	b.barrier()
	checkReadRefuses(t, b.l, at(0, 1, 1), api.ErrDead)
	checkReadRefuses(t, b.l, at(0, 2, 1), api.ErrDead)
	checkReadRefuses(t, b.l, at(0, 1, 5), api.ErrDead)
	b.crash(t)
	checkRead(t, b.l, at(0, 1, 1), sized(1, 1))
}

func TestReadOfPagesThatAreNoNote(t *testing.T) {
	b := pair(t, 1, 2, 10)
	b.append(t, sized(1, 1))
	b.append(t, sized(2, 3))
	b.append(t, sized(3, 2))
	b.append(t, sized(4, 1))
	whole := map[api.Place]bool{at(0, 1, 1): true, at(0, 2, 3): true, at(0, 5, 2): true, at(0, 7, 1): true}
	for page := 1; page < 10; page++ {
		for pages := 1; pages <= 10-page; pages++ {
			if p := at(0, page, pages); whole[p] {
				checkRead(t, b.l, p, map[int]api.Note{1: sized(1, 1), 2: sized(2, 3), 5: sized(3, 2), 7: sized(4, 1)}[page])
			} else {
				checkReadRefuses(t, b.l, p, api.ErrLog)
			}
			checkReadRefuses(t, b.l, at(1, page, pages), api.ErrLog)
		}
	}
}

// framed returns pages of a kind that have b.
func framed(kind uint8, b []byte) [][]byte {
	l, _ := page.Split(kind, b)
	return l
}

// noNotes returns pages that others may have programmed, of which none are those of a note.
func noNotes() map[string][][]byte {
	long, _ := record.Lay(sized(1, 3))
	short, _ := record.Lay(done(1))
	wrong := laid(sized(1, 3))
	full := laid(sized(1, 2))
	one := laid(done(1))[0]
	untold := func(f api.Frame) []byte {
		b, _ := page.Lay(f)
		return b
	}
	m := map[string][][]byte{
		"bytes":               {bytes.Repeat([]byte{7}, pageSize)},
		"a torn page":         {torn(one, 127)},
		"a torn last page":    {wrong[0], wrong[1], torn(wrong[2], 127)},
		"a torn second page":  {wrong[0], torn(wrong[1], 127), wrong[2]},
		"a page of no bytes":  framed(2, nil),
		"a first page":        {opened(1)},
		"too many bytes":      framed(2, append(bytes.Clone(short), 0)),
		"too few bytes":       framed(2, short[:8]),
		"too few long bytes":  framed(2, long[:350]),
		"too many long bytes": framed(2, append(bytes.Clone(long), 0)),
		"no last page":        wrong[:2],
		"no first page":       wrong[1:],
		"a page twice":        {wrong[0], wrong[0], wrong[1], wrong[2]},
		"pages in disorder":   {wrong[1], wrong[0], wrong[2]},
		"a page missing":      {wrong[0], wrong[2]},
		"another kind behind": {full[0], untold(api.Frame{Kind: 3, Last: true, Data: full[1][2:127]})},
		"another kind ahead":  {untold(api.Frame{Kind: 3, First: true, Data: full[0][2:127]}), full[1]},
		"a page that is not full": {
			untold(api.Frame{Kind: 2, First: true, Data: short[:8]}), untold(api.Frame{Kind: 2, Last: true, Data: short[8:]})},
	}
	for _, kind := range []uint8{0, 1, 3, 4, 34, 63} {
		m["kind "+string(rune('a'+kind))] = framed(kind, short)
		m["long kind "+string(rune('a'+kind))] = framed(kind, long)
	}
	return m
}

func TestReadOfPagesThatOthersWrote(t *testing.T) {
	for what, l := range noNotes() {
		b := pair(t, 1, 1, 8)
		for i, x := range l {
			must(t, b.f.Program(1, 1+i, x))
		}
		for pages := 1; pages < 8; pages++ {
			if n, err := b.l.Read(at(0, 1, pages)); !sameNote(n, api.Note{}) || err != api.ErrLog {
				t.Errorf("%s: Read of %d pages returns %v, %d", what, pages, n, err)
			}
		}
	}
}

func TestReadTakesNotesThatOthersWrote(t *testing.T) {
	b := pair(t, 1, 2, 8)
	// The segment has no first page, and is free; Read asks for neither.
	for i, x := range laid(sized(3, 3)) {
		b.program(1, 4+i, x)
	}
	checkRead(t, b.l, at(1, 4, 3), sized(3, 3))
}

func TestReadOfEachKindOfSegment(t *testing.T) {
	b := pair(t, 1, 2, 4)
	p := at(0, 1, 2)
	b.appends(t, sized(1, 2), p)
	checkRead(t, b.l, p, sized(1, 2))
	b.close(t)
	checkRead(t, b.l, p, sized(1, 2))
	b.release(0)
	checkRead(t, b.l, p, sized(1, 2))
	b.erase(0)
	checkReadRefuses(t, b.l, p, api.ErrLog)
}

func TestReadToTheEndOfTheGreatestSegment(t *testing.T) {
	b := pair(t, 0, 1, 64)
	for i := range 21 {
		if p, err := b.l.Append(sized(uint64(i), 3)); p != at(0, 1+3*i, 3) || err != api.OK {
			t.Fatalf("Append returns %v, %d", p, err)
		}
	}
	checkHead(t, b.l, 2, 1)
	for i := range 21 {
		checkRead(t, b.l, at(0, 1+3*i, 3), sized(uint64(i), 3))
	}
	if _, l, err := b.l.Scan(0, 1); len(l) != 21 || err != api.OK {
		t.Errorf("Scan returns %d notes, %d", len(l), err)
	}
}

// P12.4: Scan

func TestScanOfPagesThatDoNotExist(t *testing.T) {
	b := pair(t, 2, 3, 6)
	for seq := range uint64(15) {
		b.append(t, sized(seq, 1))
	}
	check := func() {
		t.Helper()
		for _, seg := range outside(3) {
			for _, page := range []int{0, 1, 6, 7} {
				checkScanRefuses(t, b.l, seg, page, api.ErrArg)
			}
		}
		for seg := range 3 {
			for _, page := range append(outside(7), 0) {
				checkScanRefuses(t, b.l, seg, page, api.ErrArg)
			}
		}
	}
	check()
	b.cut(0)
	b.barrier()
	check()
	l := create(t, device(t, 2, 4), 1, blank(t, 0))
	checkScanRefuses(t, l, 0, 1, api.ErrArg)
}

func TestScanWithThePowerOff(t *testing.T) {
	b := pair(t, 0, 2, 4)
	b.append(t, done(1))
	b.cut(0)
	checkScan(t, b.l, 0, 1, 1, api.Entry{Place: at(0, 1, 1), Note: done(1)})
	b.barrier()
	for seg := range 2 {
		for page := 1; page <= 4; page++ {
			checkScanRefuses(t, b.l, seg, page, api.ErrDead)
		}
	}
}

func TestScanFromEachPage(t *testing.T) {
	b := pair(t, 3, 2, 10)
	all := []api.Entry{
		{Place: at(0, 1, 1), Note: sized(1, 1)},
		{Place: at(0, 2, 3), Note: sized(2, 3)},
		{Place: at(0, 5, 2), Note: sized(3, 2)},
		{Place: at(0, 7, 1), Note: sized(4, 1)},
	}
	for _, x := range all {
		b.appends(t, x.Note, x.Place)
	}
	checkScan(t, b.l, 0, 1, 1, all...)
	checkScan(t, b.l, 0, 2, 1, all[1:]...)
	checkScan(t, b.l, 0, 3, 1)
	checkScan(t, b.l, 0, 4, 1)
	checkScan(t, b.l, 0, 5, 1, all[2:]...)
	checkScan(t, b.l, 0, 6, 1)
	checkScan(t, b.l, 0, 7, 1, all[3:]...)
	checkScan(t, b.l, 0, 8, 1)
	checkScan(t, b.l, 0, 9, 1)
	checkScan(t, b.l, 0, 10, 1)
	for page := 1; page <= 10; page++ {
		checkScan(t, b.l, 1, page, 0)
	}
}

func TestScanOfEachFirstPage(t *testing.T) {
	low := func(n int) []byte { return append([]byte{9}, make([]byte, n-1)...) }
	lay := func(kind uint8, first, last bool, b []byte) []byte {
		l, _ := page.Lay(api.Frame{Kind: kind, First: first, Last: last, Data: b})
		return l
	}
	spoilt := opened(9)
	spoilt[100] = 1
	for what, first := range map[string]struct {
		b   []byte
		seq uint64
	}{
		"Seq 9":               {opened(9), 9},
		"the greatest Seq":    {opened(math.MaxUint64), math.MaxUint64},
		"Seq 0":               {opened(0), 0},
		"an erased page":      {bytes.Repeat([]byte{255}, pageSize), 0},
		"a page of zeros":     {make([]byte, pageSize), 0},
		"a torn page":         {torn(opened(9), 127), 0},
		"a page torn early":   {torn(opened(9), 10), 0},
		"no last byte":        {append(opened(9)[:127], 0), 0},
		"a byte behind":       {spoilt, 0},
		"kind 0":              {lay(0, true, true, low(8)), 0},
		"kind 2":              {lay(2, true, true, low(8)), 0},
		"kind 3":              {lay(3, true, true, low(8)), 0},
		"kind 33":             {lay(33, true, true, low(8)), 0},
		"not First":           {lay(1, false, true, low(8)), 0},
		"not Last":            {lay(1, true, false, low(8)), 0},
		"neither":             {lay(1, false, false, low(8)), 0},
		"seven bytes":         {lay(1, true, true, low(7)), 0},
		"nine bytes":          {lay(1, true, true, low(9)), 0},
		"no bytes":            {lay(1, true, true, nil), 0},
		"full, but not Last":  {lay(1, true, false, low(125)), 0},
		"as many as it holds": {lay(1, true, true, low(125)), 0},
		"a note":              {laid(done(1))[0], 0},
	} {
		b := pair(t, 1, 1, 5)
		b.program(0, 0, first.b)
		all := []api.Entry{{Place: at(0, 1, 1), Note: done(4)}, {Place: at(0, 2, 2), Note: sized(5, 2)}, {Place: at(0, 4, 1), Note: done(6)}}
		pages := slices.Concat(laid(all[0].Note), laid(all[1].Note), laid(all[2].Note))
		for i, x := range pages {
			b.program(0, 1+i, x)
		}
		for page := 1; page <= 5; page++ {
			want := map[int][]api.Entry{1: all, 2: all[1:], 4: all[2:]}[page]
			if first.seq == 0 {
				want = nil
			}
			if seq, l, err := b.l.Scan(0, page); seq != first.seq || !sameEntries(l, want) || err != api.OK {
				t.Errorf("%s: Scan(0, %d) returns %d, %v, %d", what, page, seq, l, err)
			}
		}
		b.check(t, what)
	}
}

func TestScanEndsAtWhatIsNoNote(t *testing.T) {
	for what, l := range noNotes() {
		b := pair(t, 1, 1, 9)
		b.program(0, 0, opened(3))
		pages := slices.Concat(laid(sized(1, 1)), laid(sized(2, 2)), l, laid(done(3)))
		for i, x := range pages {
			b.program(0, 1+i, x)
		}
		one, two := api.Entry{Place: at(0, 1, 1), Note: sized(1, 1)}, api.Entry{Place: at(0, 2, 2), Note: sized(2, 2)}
		if seq, got, err := b.l.Scan(0, 1); seq != 3 || !sameEntries(got, []api.Entry{one, two}) || err != api.OK {
			t.Errorf("%s: Scan(0, 1) returns %d, %v, %d", what, seq, got, err)
		}
		checkScan(t, b.l, 0, 4, 3)
		// The note behind it is found from its own page on.
		checkScan(t, b.l, 0, 4+len(l), 3, api.Entry{Place: at(0, 4+len(l), 1), Note: done(3)})
		b.check(t, what)
	}
}

func TestScanEndsAtAnErasedPage(t *testing.T) {
	b := pair(t, 1, 1, 8)
	b.append(t, sized(1, 2))
	b.program(0, 4, laid(done(2))[0])
	checkScan(t, b.l, 0, 1, 1, api.Entry{Place: at(0, 1, 2), Note: sized(1, 2)})
	checkScan(t, b.l, 0, 3, 1)
	checkScan(t, b.l, 0, 4, 1, api.Entry{Place: at(0, 4, 1), Note: done(2)})
}

func TestScanOfANoteThatDoesNotEndInItsSegment(t *testing.T) {
	b := pair(t, 0, 2, 4)
	l := laid(sized(1, 3))
	b.program(0, 0, opened(1))
	b.program(0, 1, laid(done(1))[0])
	b.program(0, 2, l[0])
	b.program(0, 3, l[1])
	b.program(1, 0, l[2])
	b.program(1, 1, l[2])
	checkScan(t, b.l, 0, 1, 1, api.Entry{Place: at(0, 1, 1), Note: done(1)})
	checkScan(t, b.l, 0, 2, 1)
}

func TestScanOfEachKindOfSegment(t *testing.T) {
	b := pair(t, 1, 2, 4)
	x := api.Entry{Place: at(0, 1, 2), Note: sized(1, 2)}
	b.appends(t, x.Note, x.Place)
	checkScan(t, b.l, 0, 1, 1, x)
	b.close(t)
	checkScan(t, b.l, 0, 1, 1, x)
	b.release(0)
	checkScan(t, b.l, 0, 1, 1, x)
	b.erase(0)
	checkScan(t, b.l, 0, 1, 0)
}

// P12.4: Head

func TestHead(t *testing.T) {
	b := pair(t, 1, 2, 4)
	checkHead(t, b.l, 1, 1)
	b.append(t, done(1))
	checkHead(t, b.l, 1, 2)
	b.append(t, done(2))
	checkHead(t, b.l, 1, 3)
	b.append(t, done(3))
	checkHead(t, b.l, 2, 1)
	b.append(t, sized(4, 2))
	checkHead(t, b.l, 2, 3)
	b.close(t)
	checkHead(t, b.l, 3, 1)
	b.refuses(t, done(5), api.ErrFull)
	checkHead(t, b.l, 3, 1)
	b.release(0)
	checkHead(t, b.l, 3, 1)
	b.append(t, done(5))
	checkHead(t, b.l, 3, 2)
	b.cut(0)
	b.barrier()
	checkHead(t, b.l, 3, 2)
}

func TestHeadOfALoadedTable(t *testing.T) {
	b := loaded(t, 0, 3, []api.Segment{{Kind: sealed, Seq: 8}, {}}, 77)
	checkHead(t, b.l, 77, 1)
	b.append(t, done(1))
	checkHead(t, b.l, 77, 2)
	b = loaded(t, 0, 3, []api.Segment{{Kind: open, Seq: 8}, {}}, 77)
	checkHead(t, b.l, 77, 1)
	b = loaded(t, 0, 3, nil, 77)
	checkHead(t, b.l, 77, 1)
}

func TestTheNextNoteIsStoredAtHead(t *testing.T) {
	d := dice(3)
	b := pair(t, 2, 200, 5)
	for range 100 {
		seq, page := b.l.Head()
		p, err := b.l.Append(done(uint64(d.roll(9))))
		if err != api.OK || p.Page != page || b.t.Rows()[p.Seg].Seq != seq {
			t.Fatalf("Head returns %d, %d; the note is stored at %v, %d", seq, page, p, err)
		}
		if d.roll(5) == 0 {
			b.l.Append(sized(1, 3))
		}
		if d.roll(9) == 0 {
			must(t, b.l.Close())
		}
	}
}

func TestNilLog(t *testing.T) {
	var l *log.Log
	for _, n := range append(invalid(), done(1), sized(1, 3)) {
		if p, err := l.Append(n); p != (api.Place{}) || err != api.ErrNone {
			t.Errorf("Append returns %v, %d", p, err)
		}
	}
	for _, i := range append(outside(2), 0, 1) {
		checkReadRefuses(t, l, at(i, i, i), api.ErrNone)
		checkReadRefuses(t, l, at(0, 1, i), api.ErrNone)
		checkScanRefuses(t, l, i, 1, api.ErrNone)
		checkScanRefuses(t, l, 0, i, api.ErrNone)
	}
	if err := l.Close(); err != api.ErrNone {
		t.Errorf("Close returns %d", err)
	}
	checkHead(t, l, 0, 0)
}

func TestExample(t *testing.T) {
	b := pair(t, 0, 2, 4)
	b.appends(t, done(1), at(0, 1, 1))
	b.appends(t, done(2), at(0, 2, 1))
	b.appends(t, done(3), at(0, 3, 1))
	b.appends(t, done(4), at(1, 1, 1))
	checkHead(t, b.l, 2, 2)
}

func TestAnyCalls(t *testing.T) {
	for i := range 60 {
		d := dice(i)
		b := pair(t, d.roll(3), 1+d.roll(4), 2+d.roll(5))
		for range 60 {
			b = b.step(t, &d)
		}
	}
}

func TestAnyCallsOnLoadedTables(t *testing.T) {
	for i := range 30 {
		d := dice(1000 + i)
		rows := []api.Segment{{Wear: uint32(d.roll(3))}, {Kind: sealed, Seq: 4, Wear: 1}, {Wear: uint32(d.roll(3))}, {Kind: uint8(1 + d.roll(2)), Seq: 6}}
		b := loaded(t, d.roll(3), 2+d.roll(6), rows, 7+uint64(d.roll(300)))
		for range 60 {
			b = b.step(t, &d)
		}
	}
}

// P12.5

func TestWhatWasAppendedIsReadAndScanned(t *testing.T) {
	for i := range 30 {
		d := dice(i)
		segs, pages := 1+d.roll(20), 4+d.roll(20)
		f, x := device(t, segs+2, pages), blank(t, segs)
		l := create(t, f, 2, x)
		var all []api.Entry
		for {
			n := d.note()
			p, err := l.Append(n)
			if err == api.ErrFull {
				break
			}
			must(t, err)
			all = append(all, api.Entry{Place: p, Note: n})
			if d.roll(20) == 0 {
				must(t, l.Close())
			}
		}
		for _, l := range []*log.Log{l, create(t, f, 2, blank(t, segs))} {
			for _, e := range all {
				checkRead(t, l, e.Place, e.Note)
			}
			if found := recovered(t, l, segs); !sameEntries(found, all) {
				t.Errorf("found are %v, not %v", found, all)
			}
		}
	}
}

// recovered returns the notes in the segments of a log in increasing order of their numbers.
func recovered(t *testing.T, l *log.Log, segs int) []api.Entry {
	t.Helper()
	bySeq := map[uint64][]api.Entry{}
	var seqs []uint64
	for seg := range segs {
		seq, all, err := l.Scan(seg, 1)
		if err != api.OK {
			t.Fatalf("Scan(%d, 1) returns %d", seg, err)
		}
		if seq == 0 {
			continue
		}
		if _, twice := bySeq[seq]; twice {
			t.Fatalf("two segments have the number %d", seq)
		}
		bySeq[seq] = all
		seqs = append(seqs, seq)
	}
	slices.Sort(seqs)
	var found []api.Entry
	for _, seq := range seqs {
		found = append(found, bySeq[seq]...)
	}
	return found
}

// P12.6

// history is what was done to a log until the power failed.
type history struct {
	f       *flash.Flash
	t       *table.Table
	l       *log.Log
	all     []api.Entry // what was appended
	numbers []uint64    // for each of these, the Seq of its segment
	safe    int         // how many of these are safe
}

// start returns a log behind one segment, of which nothing was done.
func start(t *testing.T, segs, pages int) *history {
	t.Helper()
	h := &history{f: device(t, segs+1, pages), t: blank(t, segs)}
	h.l = create(t, h.f, 1, h.t)
	return h
}

// append appends a note; false if the power failed.
func (h *history) append(t *testing.T, n api.Note) bool {
	t.Helper()
	p, err := h.l.Append(n)
	if err == api.OK {
		h.all = append(h.all, api.Entry{Place: p, Note: n})
		h.numbers = append(h.numbers, h.t.Rows()[p.Seg].Seq)
	} else if err != api.ErrDead {
		t.Fatalf("Append returns %d", err)
	}
	h.settle()
	return err == api.OK
}

// settle counts the notes in segments that are not open any more as safe: a Barrier came ahead of the Seal.
func (h *history) settle() {
	seg, there := h.t.Current()
	for i := h.safe; i < len(h.all); i++ {
		if there && h.t.Rows()[seg].Seq == h.numbers[i] {
			return
		}
		h.safe = i + 1
	}
}

// flush makes everything safe; false if the power failed.
func (h *history) flush() bool {
	if h.f.Barrier() != api.OK {
		return false
	}
	h.safe = len(h.all)
	return true
}

// held returns how many of the notes that were appended are in segments that were released, and may be gone.
func (h *history) held() int {
	rows := h.t.Rows()
	for i, x := range h.all {
		if rows[x.Place.Seg].Seq == h.numbers[i] {
			return i
		}
	}
	return len(h.all)
}

// play does what the dice tell until the power fails, or so many notes were appended.
func (h *history) play(t *testing.T, d *dice, many int) {
	t.Helper()
	for len(h.all) < many {
		alive := true
		switch d.roll(8) {
		case 0:
			alive = h.flush()
		case 1:
			alive = h.l.Close() == api.OK
			h.settle()
		default:
			if l := h.t.Sealed(); h.t.Free() == 0 && len(l) > 0 {
				h.t.Release(l[0])
			}
			alive = h.append(t, sized(uint64(len(h.all)), 1+d.roll(3)))
		}
		if !alive {
			return
		}
	}
}

// checkCrash checks what is there behind a crash with those fates: nothing but a run of what was appended, that includes all of what is safe and in no released segment.
func (h *history) checkCrash(t *testing.T, what string, fates []int) []api.Entry {
	t.Helper()
	f := h.f.Copy()
	f.Crash(fates)
	segs := len(h.t.Rows())
	found := recovered(t, create(t, f, 1, blank(t, segs)), segs)
	// The first notes may be gone with their segments.
	lost := h.held()
	if len(found) > 0 {
		lost = slices.IndexFunc(h.all, func(x api.Entry) bool { return sameNote(x.Note, found[0].Note) })
	}
	if lost < 0 || lost > h.held() || lost+len(found) > len(h.all) || lost+len(found) < h.safe {
		t.Fatalf("%s, %v: found are %d notes from %d on; appended were %d, of which %d are safe", what, fates, len(found), lost, len(h.all), h.safe)
	}
	if !sameEntries(found, h.all[lost:lost+len(found)]) {
		t.Fatalf("%s, %v: found is %v of %v", what, fates, found, h.all)
	}
	return found
}

// fatesOf returns what may happen to so many operations: all, nothing, the first ones alone, one of them torn or lost, and what the dice tell.
func fatesOf(d *dice, many int) [][]int {
	l := [][]int{nil, slices.Repeat([]int{everything}, many)}
	for i := range many {
		for _, fate := range []int{0, 1, 2, 3, 64, 126, 127, 128} {
			rest := slices.Repeat([]int{everything}, many)
			rest[i] = fate
			l = append(l, rest)
			first := slices.Clone(rest[:i+1])
			l = append(l, first)
		}
	}
	for range 10 {
		l = append(l, d.fates(many))
	}
	return l
}

func TestAPrefixIsThereBehindEachCrash(t *testing.T) {
	const pending = 9 // more operations than are not safe at a time
	for cut := range 60 {
		h := start(t, 8, 5)
		h.f.Cut(cut)
		for i := range 11 {
			if !h.append(t, sized(uint64(i), 1+i%3)) || i == 6 && !h.flush() {
				break
			}
		}
		if h.held() != 0 {
			t.Fatalf("%d notes are in no segment", h.held())
		}
		d := dice(cut)
		for _, fates := range fatesOf(&d, pending) {
			h.checkCrash(t, "with no segment released", fates)
		}
		// With all operations done, all notes are there that were appended.
		if found := h.checkCrash(t, "all done", slices.Repeat([]int{everything}, pending)); len(found) != len(h.all) {
			t.Errorf("found are %d notes of %d", len(found), len(h.all))
		}
	}
}

func TestAPrefixIsThereBehindEachCrashOfAnyCalls(t *testing.T) {
	for i := range 300 {
		d := dice(i)
		h := start(t, 2+d.roll(4), 4+d.roll(4))
		h.f.Cut(d.roll(150))
		h.play(t, &d, 40)
		for _, fates := range fatesOf(&d, 6) {
			h.checkCrash(t, "with segments released", fates)
		}
	}
}

func TestOldNotesDoNotTurnUpInANewSegment(t *testing.T) {
	// The two notes of the first round have as many pages as those of the second one, so that old pages could pass for new ones.
	for cut := range 12 {
		for _, fates := range fatesOf(new(dice), 5) {
			b := pair(t, 0, 1, 3)
			b.appends(t, done(1), at(0, 1, 1))
			b.appends(t, done(2), at(0, 2, 1))
			must(t, b.close(t))
			b.release(0)
			b.f.Cut(cut)
			b.l.Append(done(3))
			b.l.Append(done(4))
			b.f.Crash(fates)
			seq, l, err := b.l.Scan(0, 1)
			for i, x := range l {
				if want := uint64(i + 1); seq == 1 && x.Note.Seq != want || seq == 2 && x.Note.Seq != want+2 {
					t.Fatalf("cut %d, %v: Scan returns %d, %v, %d", cut, fates, seq, l, err)
				}
			}
			if err != api.OK || seq > 2 || seq == 1 && len(l) != 2 {
				t.Fatalf("cut %d, %v: Scan returns %d, %v, %d", cut, fates, seq, l, err)
			}
		}
	}
}

func TestALogGoesOnBehindACrash(t *testing.T) {
	for i := range 100 {
		d := dice(i)
		h := start(t, 12, 5)
		h.f.Cut(d.roll(50))
		h.play(t, &d, 12)
		fates := d.fates(8)
		found := h.checkCrash(t, "before it goes on", fates)
		h.f.Crash(fates)
		rows, next := make([]api.Segment, 12), uint64(1)
		for seg := range rows {
			if seq, _, _ := h.l.Scan(seg, 1); seq > 0 {
				rows[seg] = api.Segment{Kind: sealed, Seq: seq}
				next = max(next, seq+1)
			}
		}
		l := create(t, h.f, 1, tableOf(t, rows, next))
		for seq := range uint64(4) {
			n := sized(seq+100, 1+d.roll(3))
			p, err := l.Append(n)
			must(t, err)
			found = append(found, api.Entry{Place: p, Note: n})
		}
		if all := recovered(t, l, 12); !sameEntries(all, found) {
			t.Fatalf("found are %v, not %v", all, found)
		}
	}
}

// Rules 2 to 6 of the document

func TestNoBytesAreNilOnes(t *testing.T) {
	for _, data := range [][]byte{nil, {}, make([]byte, 0, 9)} {
		b := pair(t, 0, 1, 4)
		n := api.Note{Kind: api.NoteWrite, Seq: 4, Data: data}
		b.appends(t, n, at(0, 1, 1))
		checkRead(t, b.l, at(0, 1, 1), n)
	}
}

// guarded returns bytes that lie within others, and these.
func guarded(b []byte) (inner, array []byte) {
	array = slices.Concat([]byte("ahead"), b, []byte("behind"))
	return array[5 : 5+len(b)], array
}

// spoil overwrites bytes, up to their capacity.
func spoil(b []byte) {
	b = b[:cap(b)]
	for i := range b {
		b[i] ^= 255
	}
}

func TestBytesHandedInAreNeitherChangedNorKept(t *testing.T) {
	for pages := 1; pages <= 3; pages++ {
		b := pair(t, 0, 2, 4)
		n := sized(1, pages)
		inner, array := guarded(n.Data)
		n.Data = inner
		before := bytes.Clone(array)
		p, err := b.l.Append(n)
		if err != api.OK || !bytes.Equal(array, before) {
			t.Errorf("Append returns %d, or changes what it is given", err)
		}
		spoil(array)
		checkRead(t, b.l, p, sized(1, pages))
		checkScan(t, b.l, 0, 1, 1, api.Entry{Place: p, Note: sized(1, pages)})
		b.l.Append(sized(2, 3))
		checkScan(t, b.l, 0, 1, 1, api.Entry{Place: p, Note: sized(1, pages)})
	}
}

func TestBytesOfARefusedNoteAreNotChanged(t *testing.T) {
	b := pair(t, 0, 1, 3)
	for _, n := range append(invalid(), sized(1, 3)) {
		inner, array := guarded(n.Data)
		n.Data = inner
		before := bytes.Clone(array)
		b.l.Append(n)
		if !bytes.Equal(array, before) {
			t.Errorf("Append changes the bytes of %v", n)
		}
	}
}

func TestBeyondTheLengthIsNotRead(t *testing.T) {
	one, other := pair(t, 0, 1, 4), pair(t, 0, 1, 4)
	n := sized(1, 1)
	long := append(bytes.Clone(n.Data), bytes.Repeat([]byte{9}, 400)...)
	one.l.Append(n)
	n.Data = long[:len(n.Data)]
	other.l.Append(n)
	checkFlash(t, "with bytes beyond the length", other.f, one.f)
}

func TestANoteThatIsReadIsTheCallersOwn(t *testing.T) {
	b := pair(t, 0, 1, 6)
	b.append(t, sized(1, 2))
	b.append(t, sized(2, 3))
	pages := everyPage(b.f)
	one, _ := b.l.Read(at(0, 1, 2))
	other, _ := b.l.Read(at(0, 1, 2))
	spoil(one.Data)
	if !sameNote(other, sized(1, 2)) {
		t.Error("two notes that are read share memory")
	}
	spoil(other.Data)
	checkRead(t, b.l, at(0, 1, 2), sized(1, 2))
	if !slices.EqualFunc(everyPage(b.f), pages, bytes.Equal) {
		t.Error("a note that is read shares memory with the flash")
	}
}

func TestNotesThatAreScannedAreTheCallersOwn(t *testing.T) {
	b := pair(t, 0, 1, 10)
	var want []api.Entry
	for i := range 5 {
		n := sized(uint64(i), 1+i%2)
		p, _ := b.append(t, n)
		want = append(want, api.Entry{Place: p, Note: n})
	}
	pages := everyPage(b.f)
	_, other, _ := b.l.Scan(0, 1)
	for i := range want {
		_, one, _ := b.l.Scan(0, 1)
		spoil(one[i].Note.Data)
		if !sameEntries(one[:i], want[:i]) || !sameEntries(one[i+1:], want[i+1:]) {
			t.Errorf("note %d shares memory with another one of the same result", i)
		}
		clear(one[:cap(one)])
		if !sameEntries(other, want) {
			t.Errorf("two results share memory, at note %d", i)
		}
	}
	checkScan(t, b.l, 0, 1, 1, want...)
	if !slices.EqualFunc(everyPage(b.f), pages, bytes.Equal) {
		t.Error("notes that are scanned share memory with the flash")
	}
}

func TestResultsStayAsTheyWere(t *testing.T) {
	b := pair(t, 0, 2, 4)
	b.append(t, sized(1, 2))
	n, _ := b.l.Read(at(0, 1, 2))
	_, l, _ := b.l.Scan(0, 1)
	for seq := range uint64(6) {
		b.append(t, sized(seq+9, 3))
		b.close(t)
		b.release(0)
		b.release(1)
	}
	if !sameNote(n, sized(1, 2)) || !sameEntries(l, []api.Entry{{Place: at(0, 1, 2), Note: sized(1, 2)}}) {
		t.Errorf("results became %v, %v", n, l)
	}
}

func TestAskingChangesNothing(t *testing.T) {
	b := pair(t, 1, 3, 4)
	for i := range 5 {
		b.append(t, sized(uint64(i), 1))
	}
	ops, rows, next := b.f.Done(), b.t.Rows(), b.t.Next()
	for range 3 {
		b.check(t, "asked again")
	}
	if b.f.Done() != ops || !slices.Equal(b.t.Rows(), rows) || b.t.Next() != next {
		t.Error("Read, Scan or Head changes something")
	}
}

func TestSameCallsSameResults(t *testing.T) {
	one, other := pair(t, 1, 4, 6), pair(t, 1, 4, 6)
	d, e := dice(5), dice(5)
	for range 100 {
		one, other = one.step(t, &d), other.step(t, &e)
		checkFlash(t, "the same calls", one.f, other.f)
	}
}
