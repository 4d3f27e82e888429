package log_test

import (
	"bytes"
	"slices"
	"testing"

	"pumice/api"
	"pumice/flash"
	"pumice/log"
	"pumice/page"
	"pumice/record"
	"pumice/table"
)

// What the document names: the bytes of a page, and those that it frames.
const (
	pageSize = 128
	maxBody  = 125
)

// everything is a fate with which all of an operation is done.
const everything = 1000

// step is a thing that is done, unless one ahead of it failed.
type step func() api.Errno

// run does the steps in order, up to the first error.
func run(steps ...step) api.Errno {
	for _, do := range steps {
		if err := do(); err != api.OK {
			return err
		}
	}
	return api.OK
}

// reference is a log in a plain way, with a flash and a table of its own: what there is to do is listed ahead, and then done step by step.
type reference struct {
	f    *flash.Flash
	t    *table.Table
	from int
	next map[uint64]int // by the Seq of a segment: where the next note goes; none if it counts as full
}

func refer(f *flash.Flash, from int, t *table.Table) *reference {
	return &reference{f, t, from, map[uint64]int{}}
}

// current returns the open segment, its Seq, and where the next note goes in it.
func (r *reference) current() (seg int, seq uint64, next int, open bool) {
	for i, s := range r.t.Rows() {
		if s.Kind == api.SegOpen {
			next, there := r.next[s.Seq]
			if !there {
				next = r.f.Pages()
			}
			return i, s.Seq, next, true
		}
	}
	return 0, 0, 0, false
}

// opening lists what is done to open a segment.
func (r *reference) opening() []step {
	var seg int
	var seq uint64
	return []step{
		func() (err api.Errno) { seg, seq, err = r.t.Open(); return err },
		func() api.Errno { return r.f.Erase(r.from + seg) },
		func() api.Errno { return r.f.Barrier() },
		func() api.Errno { return r.f.Program(r.from+seg, 0, opened(seq)) },
		func() api.Errno { r.next[seq] = 1; return api.OK },
	}
}

func (r *reference) append(n api.Note) (api.Place, api.Errno) {
	l := laid(n)
	if l == nil {
		return api.Place{}, api.ErrArg
	}
	if len(l) >= r.f.Pages() {
		return api.Place{}, api.ErrLong
	}
	var steps []step
	_, _, next, open := r.current()
	if open && next+len(l) > r.f.Pages() {
		steps = append(steps, r.f.Barrier, r.t.Seal)
		open = false
	}
	if !open {
		steps = append(steps, r.opening()...)
	}
	for _, b := range l {
		steps = append(steps, func() api.Errno { return r.program(b) })
	}
	if err := run(steps...); err != api.OK {
		return api.Place{}, err
	}
	seg, _, next, _ := r.current()
	return api.Place{Seg: seg, Page: next - len(l), Pages: len(l)}, api.OK
}

// program programs a page of a note to where the next one goes.
func (r *reference) program(b []byte) api.Errno {
	seg, seq, next, _ := r.current()
	return run(
		func() api.Errno { return r.f.Program(r.from+seg, next, b) },
		func() api.Errno { r.next[seq]++; return api.OK },
	)
}

func (r *reference) close() api.Errno {
	if _, _, _, open := r.current(); !open {
		return api.OK
	}
	return run(r.f.Barrier, r.t.Seal)
}

func (r *reference) head() (uint64, int) {
	if _, seq, next, open := r.current(); open && next < r.f.Pages() {
		return seq, next
	}
	return r.t.Next(), 1
}

func (r *reference) read(p api.Place) (api.Note, api.Errno) {
	if p.Seg < 0 || p.Seg >= len(r.t.Rows()) || p.Page < 1 || p.Pages < 1 {
		return api.Note{}, api.ErrArg
	}
	for i := range p.Pages {
		if p.Page > r.f.Pages()-1-i {
			return api.Note{}, api.ErrArg
		}
	}
	if r.f.Dead() {
		return api.Note{}, api.ErrDead
	}
	var b []byte
	for i := range p.Pages {
		part, ok := r.part(p, i)
		if !ok {
			return api.Note{}, api.ErrLog
		}
		b = append(b, part...)
	}
	if n, err := record.Take(b); err == api.OK {
		return n, api.OK
	}
	return api.Note{}, api.ErrLog
}

// part returns what page i of a note that has exactly these pages frames; false if it can't be that one.
func (r *reference) part(p api.Place, i int) ([]byte, bool) {
	b, _ := r.f.Read(r.from+p.Seg, p.Page+i)
	f, err := page.Take(b)
	first, last := i == 0, i == p.Pages-1
	ok := err == api.OK && f.Kind == 2 && f.First == first && f.Last == last && (last || len(f.Data) == maxBody)
	return f.Data, ok
}

// scan reads note by note; a note's pages are those of which read makes a note.
func (r *reference) scan(seg, at int) (uint64, []api.Entry, api.Errno) {
	if seg < 0 || seg >= len(r.t.Rows()) || at < 1 || at > r.f.Pages() {
		return 0, nil, api.ErrArg
	}
	if r.f.Dead() {
		return 0, nil, api.ErrDead
	}
	first, _ := r.f.Read(r.from+seg, 0)
	// A first page tells its Seq in the bytes behind its length; it has no other one.
	seq := value(first[2:10])
	if !bytes.Equal(first, opened(seq)) || seq == 0 {
		return 0, nil, api.OK
	}
	var l []api.Entry
	for many := 1; at+many <= r.f.Pages(); many++ {
		p := api.Place{Seg: seg, Page: at, Pages: many}
		if n, err := r.read(p); err == api.OK {
			l = append(l, api.Entry{Place: p, Note: n})
			at, many = at+many, 0
		}
	}
	return seq, l, api.OK
}

// laid returns the pages of a note; none if it is not valid.
func laid(n api.Note) [][]byte {
	b, err := record.Lay(n)
	if err != api.OK {
		return nil
	}
	l, _ := page.Split(2, b)
	return l
}

// opened returns the first page of a segment, byte by byte.
func opened(seq uint64) []byte {
	b := make([]byte, pageSize)
	b[0] = 1 + 64 + 128
	b[1] = 8
	for i := range 8 {
		b[2+i] = byte(seq % 256)
		seq /= 256
	}
	b[pageSize-1] = 90
	return b
}

// value returns the number of which b are the bytes, the least significant one first.
func value(b []byte) uint64 {
	var v uint64
	for i := len(b) - 1; i >= 0; i-- {
		v = v*256 + uint64(b[i])
	}
	return v
}

// sameNote tells whether two notes are the same; no bytes are the same as nil ones.
func sameNote(n, m api.Note) bool {
	return n.Kind == m.Kind && n.Addr == m.Addr && n.Seq == m.Seq && n.Key == m.Key && bytes.Equal(n.Data, m.Data)
}

func sameEntries(l, m []api.Entry) bool {
	return slices.EqualFunc(l, m, func(a, b api.Entry) bool { return a.Place == b.Place && sameNote(a.Note, b.Note) })
}

// everyPage returns the pages of a flash as they are now.
func everyPage(f *flash.Flash) [][]byte {
	var l [][]byte
	for seg := range f.Segs() {
		for at := range f.Pages() {
			b, _ := f.Read(seg, at)
			l = append(l, b)
		}
	}
	return l
}

func samePages(f, g *flash.Flash) bool {
	return slices.EqualFunc(everyPage(f), everyPage(g), bytes.Equal)
}

// checkFlash checks that the same operations were done to a flash as to another one, in the same order: what crashes leave of both is the same.
func checkFlash(t *testing.T, what string, f, want *flash.Flash) {
	t.Helper()
	if f.Done() != want.Done() || f.Dead() != want.Dead() {
		t.Fatalf("%s: %d operations were done, dead: %t; not %d, %t", what, f.Done(), f.Dead(), want.Done(), want.Dead())
	}
	for seg := range want.Segs() {
		if f.Wear(seg) != want.Wear(seg) {
			t.Fatalf("%s: segment %d was erased %d times, not %d", what, seg, f.Wear(seg), want.Wear(seg))
		}
	}
	if !samePages(f, want) {
		t.Fatalf("%s: the pages are not the same", what)
	}
	alternate := slices.Repeat([]int{everything, 0}, 100)
	for _, fates := range [][]int{nil, slices.Repeat([]int{everything}, 200), slices.Repeat([]int{2}, 200), alternate, alternate[1:]} {
		a, b := f.Copy(), want.Copy()
		a.Crash(fates)
		b.Crash(fates)
		if !samePages(a, b) {
			t.Fatalf("%s: a crash with the fates %v leaves something else", what, fates[:min(2, len(fates))])
		}
	}
}

// both is a log, and the reference that goes with it.
type both struct {
	l *log.Log
	f *flash.Flash
	t *table.Table
	r *reference
}

// pair returns a log on so many segments of so many pages; the flash has from segments ahead of these and one behind.
func pair(t *testing.T, from, segs, pages int) both {
	t.Helper()
	return loaded(t, from, pages, make([]api.Segment, segs), 1)
}

// loaded returns a log over a table of those segments.
func loaded(t *testing.T, from, pages int, l []api.Segment, next uint64) both {
	t.Helper()
	f, x := device(t, from+len(l)+1, pages), tableOf(t, l, next)
	return both{create(t, f, from, x), f, x, refer(f.Copy(), from, tableOf(t, l, next))}
}

// renew returns another log over the same flash and table.
func (b both) renew(t *testing.T) both {
	t.Helper()
	b.l = create(t, b.f, b.r.from, b.t)
	b.r = refer(b.r.f, b.r.from, b.r.t)
	b.check(t, "New")
	return b
}

// check checks the flash, the table, and all that can be asked of a log.
func (b both) check(t *testing.T, what string) {
	t.Helper()
	checkFlash(t, what, b.f, b.r.f)
	if !slices.Equal(b.t.Rows(), b.r.t.Rows()) || b.t.Next() != b.r.t.Next() {
		t.Fatalf("%s: the table is %v, %d; not %v, %d", what, b.t.Rows(), b.t.Next(), b.r.t.Rows(), b.r.t.Next())
	}
	seq, at := b.l.Head()
	if wantSeq, wantAt := b.r.head(); seq != wantSeq || at != wantAt {
		t.Fatalf("%s: Head returns %d, %d; not %d, %d", what, seq, at, wantSeq, wantAt)
	}
	for seg := -1; seg <= len(b.t.Rows()); seg++ {
		for at := -1; at <= b.f.Pages()+1; at++ {
			b.checkScan(t, what, seg, at)
			for many := -1; many <= b.f.Pages()+1; many++ {
				b.checkRead(t, what, api.Place{Seg: seg, Page: at, Pages: many})
			}
		}
	}
}

func (b both) checkScan(t *testing.T, what string, seg, at int) {
	t.Helper()
	seq, l, err := b.l.Scan(seg, at)
	if wantSeq, want, wantErr := b.r.scan(seg, at); seq != wantSeq || !sameEntries(l, want) || err != wantErr {
		t.Fatalf("%s: Scan(%d, %d) returns %d, %v, %d; not %d, %v, %d", what, seg, at, seq, l, err, wantSeq, want, wantErr)
	}
}

func (b both) checkRead(t *testing.T, what string, p api.Place) {
	t.Helper()
	n, err := b.l.Read(p)
	if want, wantErr := b.r.read(p); !sameNote(n, want) || err != wantErr {
		t.Fatalf("%s: Read(%v) returns %v, %d; not %v, %d", what, p, n, err, want, wantErr)
	}
}

// append and close do the same to both, and check what was answered and all that can be asked.
func (b both) append(t *testing.T, n api.Note) (api.Place, api.Errno) {
	t.Helper()
	p, err := b.l.Append(n)
	if want, wantErr := b.r.append(n); p != want || err != wantErr {
		t.Fatalf("Append(%v) returns %v, %d; not %v, %d", n, p, err, want, wantErr)
	}
	b.check(t, "behind Append")
	return p, err
}

func (b both) close(t *testing.T) api.Errno {
	t.Helper()
	err := b.l.Close()
	if want := b.r.close(); err != want {
		t.Fatalf("Close returns %d, not %d", err, want)
	}
	b.check(t, "behind Close")
	return err
}

// appends appends a note, which must be stored there.
func (b both) appends(t *testing.T, n api.Note, want api.Place) {
	t.Helper()
	if p, err := b.append(t, n); p != want || err != api.OK {
		t.Fatalf("Append(%v) returns %v, %d; not %v, 0", n, p, err, want)
	}
}

// refuses checks that a note is not appended.
func (b both) refuses(t *testing.T, n api.Note, want api.Errno) {
	t.Helper()
	if p, err := b.append(t, n); p != (api.Place{}) || err != want {
		t.Fatalf("Append(%v) returns %v, %d; not the zero location, %d", n, p, err, want)
	}
}

// release, cut, crash, barrier and program are done by others, who use the table and the flash, too.
func (b both) release(seg int) {
	b.t.Release(seg)
	b.r.t.Release(seg)
}

func (b both) cut(after int) {
	b.f.Cut(after)
	b.r.f.Cut(after)
}

func (b both) crash(t *testing.T, fates ...int) {
	t.Helper()
	b.f.Crash(fates)
	b.r.f.Crash(fates)
	b.check(t, "behind Crash")
}

func (b both) barrier() {
	b.f.Barrier()
	b.r.f.Barrier()
}

func (b both) program(seg, at int, x []byte) {
	b.f.Program(b.r.from+seg, at, x)
	b.r.f.Program(b.r.from+seg, at, x)
}

func (b both) erase(seg int) {
	b.f.Erase(b.r.from + seg)
	b.r.f.Erase(b.r.from + seg)
}

// dice yields numbers in no order to speak of, the same ones each time.
type dice uint32

func (d *dice) roll(n int) int {
	*d = *d*1664525 + 1013904223
	return int(*d>>16) % n
}

func (d *dice) bytes(n int) []byte {
	b := make([]byte, n)
	for i := range b {
		b[i] = byte(d.roll(256))
	}
	return b
}

// note returns a valid note of one to three pages.
func (d *dice) note() api.Note {
	seq := uint64(d.roll(1000))
	key := api.Key{Sum: api.Sum(d.bytes(32)), N: uint32(d.roll(3))}
	switch d.roll(6) {
	case 0:
		return api.Note{Kind: api.NoteTrim, Addr: uint32(d.roll(50)), Seq: seq}
	case 1:
		return api.Note{Kind: api.NoteDone, Seq: seq}
	case 2:
		return api.Note{Kind: api.NoteMove, Key: key, Data: d.bytes(1 + d.roll(300))}
	case 3:
		return api.Note{Kind: api.NoteWrite, Addr: uint32(d.roll(50)), Seq: seq, Key: key}
	}
	return sized(seq, 1+d.roll(3))
}

// any returns a note, which now and then is not valid.
func (d *dice) any() api.Note {
	n := d.note()
	switch d.roll(20) {
	case 0:
		n.Kind = uint8(d.roll(256))
	case 1:
		n.Addr, n.Seq = 1, 1
	case 2:
		n.Data = d.bytes(d.roll(400))
	}
	return n
}

// fates returns fates for so many operations; some of them too great, some negative.
func (d *dice) fates(n int) []int {
	l := make([]int, n)
	for i := range l {
		l[i] = []int{0, 1, d.roll(128), 127, 128, everything, everything, -1}[d.roll(8)]
	}
	return l
}

// page returns a page that others may program: of a note, or torn, or of another kind, or any bytes.
func (d *dice) page() []byte {
	l := laid(d.note())
	b := l[d.roll(len(l))]
	switch d.roll(5) {
	case 0:
		return torn(b, d.roll(128))
	case 1:
		return opened(uint64(d.roll(5)))
	case 2:
		return d.bytes(pageSize)
	case 3:
		b[0] ^= 1 << d.roll(8)
	}
	return b
}

// step makes a call that the dice choose, and returns the log that is used then.
func (b both) step(t *testing.T, d *dice) both {
	t.Helper()
	switch d.roll(24) {
	case 0:
		b.close(t)
	case 1, 2:
		b.release(d.roll(len(b.t.Rows()) + 1))
	case 3:
		b.cut(d.roll(15) - 2)
	case 4:
		b.crash(t, d.fates(d.roll(12))...)
	case 5:
		b.barrier()
	case 6:
		b.program(d.roll(len(b.t.Rows())+1), d.roll(b.f.Pages()), d.page())
	case 7:
		if d.roll(3) == 0 {
			return b.renew(t)
		}
	default:
		b.append(t, d.any())
	}
	return b
}

// torn returns a page of which only the first n bytes were programmed.
func torn(b []byte, n int) []byte {
	return append(bytes.Clone(b[:n]), bytes.Repeat([]byte{255}, len(b)-n)...)
}
