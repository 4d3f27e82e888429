package page_test

import (
	"bytes"
	"slices"
	"testing"

	"pumice/api"
	"pumice/flash"
	"pumice/page"
)

// unlike returns n bytes that do not come again soon; none of the first 125 is 0, 90 or 255.
func unlike(n int) []byte {
	b := make([]byte, n)
	for i := range b {
		b[i] = byte(100 + i%125 + i/125)
	}
	return b
}

func filled(c byte, n int) []byte {
	return bytes.Repeat([]byte{c}, n)
}

func erased() []byte {
	return filled(255, pageSize)
}

// part returns the page of a kind 7 byte string that is neither the first nor the last one.
func part() []byte {
	return laid(api.Frame{Kind: 7, Data: unlike(maxBody)})
}

func checkLay(t *testing.T, f api.Frame, want []byte) {
	t.Helper()
	if b, err := page.Lay(f); !bytes.Equal(b, want) || err != api.OK {
		t.Errorf("Lay(%v) returns %v, %d; not %v", f, b, err, want)
	}
}

func checkLayRefuses(t *testing.T, f api.Frame, want api.Errno) {
	t.Helper()
	if b, err := page.Lay(f); len(b) != 0 || err != want {
		t.Errorf("Lay(%v) returns %v, %d; not %d", f, b, err, want)
	}
}

func checkTake(t *testing.T, b []byte, want api.Frame) {
	t.Helper()
	if f, err := page.Take(b); !sameFrame(f, want) || err != api.OK {
		t.Errorf("Take(%v) returns %v, %d; not %v", b, f, err, want)
	}
}

func checkTakeRefuses(t *testing.T, b []byte) {
	t.Helper()
	if f, err := page.Take(b); !sameFrame(f, api.Frame{}) || err != api.ErrPage {
		t.Errorf("Take(%v) returns %v, %d", b, f, err)
	}
}

func checkSplit(t *testing.T, kind uint8, b []byte, want [][]byte) {
	t.Helper()
	if l, err := page.Split(kind, b); !slices.EqualFunc(l, want, bytes.Equal) || err != api.OK {
		t.Errorf("Split(%d, %d bytes %.40q) returns %v, %d; not %v", kind, len(b), b, l, err, want)
	}
}

func checkSplitRefuses(t *testing.T, kind uint8, b []byte, want api.Errno) {
	t.Helper()
	if l, err := page.Split(kind, b); len(l) != 0 || err != want {
		t.Errorf("Split(%d, %d bytes) returns %v, %d; not %d", kind, len(b), l, err, want)
	}
}

func checkJoin(t *testing.T, l [][]byte, want stored) {
	t.Helper()
	if kind, b, pages, err := page.Join(l); kind != want.kind || !bytes.Equal(b, want.b) || pages != want.pages || err != api.OK {
		t.Errorf("Join(%d pages) returns %d, %v, %d, %d; not %v", len(l), kind, b, pages, err, want)
	}
}

func checkJoinRefuses(t *testing.T, what string, l [][]byte) {
	t.Helper()
	if kind, b, pages, err := page.Join(l); kind != 0 || len(b) != 0 || pages != 0 || err != api.ErrPage {
		t.Errorf("%s: Join(%d pages) returns %d, %v, %d, %d", what, len(l), kind, b, pages, err)
	}
}

// P9.1: Lay

func TestLayOfTheExample(t *testing.T) {
	want := append([]byte{194, 2, 97, 98}, make([]byte, 123)...)
	want = append(want, 90)
	checkLay(t, api.Frame{Kind: 2, First: true, Last: true, Data: []byte("ab")}, want)
	checkTake(t, want, api.Frame{Kind: 2, First: true, Last: true, Data: []byte("ab")})
}

func TestLayOfEachKind(t *testing.T) {
	for kind := range 64 {
		for i, head := range []int{kind, kind + 64, kind + 128, kind + 192} {
			want := append([]byte{byte(head), 3, 5, 6, 7}, make([]byte, 122)...)
			checkLay(t, api.Frame{Kind: uint8(kind), First: i&1 == 1, Last: i&2 == 2, Data: []byte{5, 6, 7}}, append(want, 90))
		}
	}
}

func TestLayOfEachLength(t *testing.T) {
	for n := range maxBody + 1 {
		for _, data := range [][]byte{unlike(n), filled(0, n), filled(255, n)} {
			want := append([]byte{127, byte(n)}, data...)
			want = append(want, make([]byte, 125-n)...)
			checkLay(t, api.Frame{Kind: 63, First: true, Data: data}, append(want, 90))
		}
	}
}

func TestLayOfNoBytes(t *testing.T) {
	want := append(make([]byte, 127), 90)
	checkLay(t, api.Frame{}, want)
	checkLay(t, api.Frame{Data: []byte{}}, want)
	checkLay(t, api.Frame{Data: make([]byte, 0, 200)}, want)
}

func TestLayOfEachByte(t *testing.T) {
	for c := range 256 {
		f := api.Frame{Kind: 1, Last: true, Data: []byte{byte(c), 1, byte(c)}}
		want := append([]byte{129, 3, byte(c), 1, byte(c)}, make([]byte, 122)...)
		checkLay(t, f, append(want, 90))
	}
}

func TestLayRefusesKinds(t *testing.T) {
	for kind := 64; kind < 256; kind++ {
		// ErrArg comes ahead of ErrLong.
		for _, n := range []int{0, 1, 125, 126, 127, 128, 256, 8001} {
			f := api.Frame{Kind: uint8(kind), First: n%2 == 0, Last: n%3 == 0, Data: unlike(n)}
			checkLayRefuses(t, f, api.ErrArg)
		}
	}
}

func TestLayRefusesLongData(t *testing.T) {
	for _, kind := range []uint8{0, 1, 62, 63} {
		for _, n := range []int{126, 127, 128, 129, 255, 256, 257, 256 + 125, 512, 1000, 8000, 65535, 65536, 65536 + 100} {
			checkLayRefuses(t, api.Frame{Kind: kind, Data: unlike(n)}, api.ErrLong)
			checkLayRefuses(t, api.Frame{Kind: kind, First: true, Last: true, Data: make([]byte, n)}, api.ErrLong)
		}
	}
}

// P9.1: Take

func TestTakeOfEachKind(t *testing.T) {
	for head := range 256 {
		b := append([]byte{byte(head), 2, 8, 9}, make([]byte, 123)...)
		checkTake(t, append(b, 90), api.Frame{Kind: uint8(head % 64), First: head/64%2 == 1, Last: head >= 128, Data: []byte{8, 9}})
	}
}

func TestTakeOfEachLength(t *testing.T) {
	for n := range maxBody + 1 {
		for _, data := range [][]byte{unlike(n), filled(0, n), filled(255, n), filled(90, n)} {
			b := append([]byte{67, byte(n)}, data...)
			b = append(b, make([]byte, 125-n)...)
			checkTake(t, append(b, 90), api.Frame{Kind: 3, First: true, Data: data})
		}
	}
}

func TestTakeRefusesTooFewOrTooManyBytes(t *testing.T) {
	checkTakeRefuses(t, nil)
	checkTakeRefuses(t, []byte{})
	for _, f := range []api.Frame{{}, {Kind: 63, First: true, Last: true}, {Kind: 5, Data: unlike(maxBody)}, {First: true, Data: unlike(60)}, {Data: filled(90, 125)}} {
		b := laid(f)
		for n := range b {
			checkTakeRefuses(t, b[:n])
			checkTakeRefuses(t, b[n+1:])
			// One byte less, and one more; the last byte is as it must be, unless it is the one that is less.
			checkTakeRefuses(t, slices.Delete(bytes.Clone(b), n, n+1))
			checkTakeRefuses(t, slices.Insert(bytes.Clone(b), n, b[n]))
		}
		for _, more := range [][]byte{{0}, {90}, {255}, make([]byte, 128), b, erased(), make([]byte, 10000)} {
			checkTakeRefuses(t, slices.Concat(b, more))
			checkTakeRefuses(t, slices.Concat(more, b))
			checkTakeRefuses(t, slices.Concat(b[:127], more, []byte{90}))
		}
	}
}

func TestTakeRefusesALengthOverMaxBody(t *testing.T) {
	for n := 126; n < 256; n++ {
		for _, data := range [][]byte{unlike(125), filled(0, 125), filled(90, 125), filled(255, 125)} {
			b := append([]byte{70, byte(n)}, data...)
			checkTakeRefuses(t, append(b, 90))
		}
	}
}

func TestTakeRefusesBytesBehindTheData(t *testing.T) {
	for n := range maxBody + 1 {
		b := laid(api.Frame{Kind: 9, Last: true, Data: unlike(n)})
		for at := 2 + n; at < 127; at++ {
			for _, c := range []byte{1, 90, 128, 255} {
				b[at] = c
				checkTakeRefuses(t, b)
			}
			b[at] = 0
		}
		checkTake(t, b, api.Frame{Kind: 9, Last: true, Data: unlike(n)})
	}
}

func TestTakeRefusesAnotherLastByte(t *testing.T) {
	for _, n := range []int{0, 1, 60, 124, 125} {
		b := laid(api.Frame{Kind: 9, First: true, Data: unlike(n)})
		for c := range 256 {
			if b[127] = byte(c); c != 90 {
				checkTakeRefuses(t, b)
			}
		}
	}
}

func TestTakeOfAnErasedPage(t *testing.T) {
	checkTakeRefuses(t, erased())
	checkTakeRefuses(t, append(filled(255, 127), 90))
}

func TestTakeOfAPageOfOneByte(t *testing.T) {
	for c := range 256 {
		checkTakeRefuses(t, filled(byte(c), pageSize))
	}
}

func TestTakeOfAnyBytes(t *testing.T) {
	d := dice(1)
	for range 20000 {
		b := d.page()
		if f, ok := taken(b); ok {
			checkTake(t, b, f)
		} else {
			checkTakeRefuses(t, b)
		}
	}
}

func TestTakeOfAPageWithAByteChanged(t *testing.T) {
	for _, n := range []int{0, 1, 40, 124, 125} {
		b := laid(api.Frame{Kind: 2, First: true, Data: unlike(n)})
		for at := range b {
			for c := range 256 {
				other := bytes.Clone(b)
				other[at] = byte(c)
				if f, ok := taken(other); ok {
					checkTake(t, other, f)
				} else {
					checkTakeRefuses(t, other)
				}
			}
		}
	}
}

// P9.2

func TestSplitOfTheExample(t *testing.T) {
	b := unlike(126)
	first := append([]byte{64 + 4, 125}, b[:125]...)
	last := append([]byte{128 + 4, 1, b[125]}, make([]byte, 124)...)
	checkSplit(t, 4, b, [][]byte{append(first, 90), append(last, 90)})
}

func TestSplitOfNoBytes(t *testing.T) {
	for kind := range 64 {
		want := append([]byte{byte(192 + kind), 0}, make([]byte, 125)...)
		want = append(want, 90)
		checkSplit(t, uint8(kind), nil, [][]byte{want})
		checkSplit(t, uint8(kind), []byte{}, [][]byte{want})
		checkSplit(t, uint8(kind), make([]byte, 0, 300), [][]byte{want})
	}
}

func TestSplitIntoSoManyPages(t *testing.T) {
	for _, x := range []struct{ bytes, pages int }{
		{0, 1}, {1, 1}, {124, 1}, {125, 1}, {126, 2}, {249, 2}, {250, 2}, {251, 3}, {375, 3}, {376, 4},
		{7874, 63}, {7875, 63}, {7876, 64}, {7999, 64}, {8000, 64},
	} {
		l, err := page.Split(1, unlike(x.bytes))
		if len(l) != x.pages || err != api.OK {
			t.Errorf("Split of %d bytes returns %d pages, %d; not %d", x.bytes, len(l), err, x.pages)
		}
	}
}

func TestSplitOfEachLength(t *testing.T) {
	d := dice(2)
	for n := range maxBytes + 1 {
		b := d.bytes(n)
		checkSplit(t, uint8(n%64), b, divided(uint8(n%64), b))
	}
}

func TestSplitSetsFirstAndLastOnce(t *testing.T) {
	l, err := page.Split(63, unlike(1000))
	if len(l) != 8 || err != api.OK {
		t.Fatalf("Split returns %d pages, %d", len(l), err)
	}
	for i, head := range []byte{64 + 63, 63, 63, 63, 63, 63, 63, 128 + 63} {
		if l[i][0] != head || l[i][1] != 125 {
			t.Errorf("page %d begins with %d, %d", i, l[i][0], l[i][1])
		}
	}
}

func TestSplitRefusesKinds(t *testing.T) {
	for kind := 64; kind < 256; kind++ {
		// ErrArg comes ahead of ErrLong.
		for _, n := range []int{0, 1, 126, 8000, 8001, 20000} {
			checkSplitRefuses(t, uint8(kind), make([]byte, n), api.ErrArg)
		}
	}
}

func TestSplitRefusesLongBytes(t *testing.T) {
	for _, kind := range []uint8{0, 1, 62, 63} {
		for _, n := range []int{8001, 8002, 8125, 8126, 8192, 16000, 65536, 65537, 65536 + 8000, 1 << 20} {
			checkSplitRefuses(t, kind, make([]byte, n), api.ErrLong)
		}
	}
}

// P9.3

func TestJoinOfOnePage(t *testing.T) {
	for kind := range 64 {
		for n := range maxBody + 1 {
			l := [][]byte{laid(api.Frame{Kind: uint8(kind), First: true, Last: true, Data: unlike(n)})}
			checkJoin(t, l, stored{uint8(kind), unlike(n), 1})
		}
	}
}

func TestJoinOfSeveralPages(t *testing.T) {
	for many := 2; many <= maxParts; many++ {
		for _, n := range []int{0, 1, 124, 125} { // bytes of the last page; none, too, though Split leaves no such one
			b := unlike(maxBody*(many-1) + n)
			l := [][]byte{laid(api.Frame{Kind: 11, First: true, Data: b[:125]})}
			for i := 1; i < many-1; i++ {
				l = append(l, laid(api.Frame{Kind: 11, Data: b[125*i : 125*i+125]}))
			}
			l = append(l, laid(api.Frame{Kind: 11, Last: true, Data: b[125*(many-1):]}))
			checkJoin(t, l, stored{11, b, many})
		}
	}
}

func TestJoinOfAnEmptyList(t *testing.T) {
	checkJoinRefuses(t, "nil", nil)
	checkJoinRefuses(t, "empty", [][]byte{})
	l := divided(7, unlike(10))
	checkJoinRefuses(t, "empty ahead of pages", l[:0])
}

// notFramed are bytes that are no framed page.
func notFramed() [][]byte {
	whole := laid(api.Frame{Kind: 7, Last: true, Data: unlike(20)})
	full := part()
	return [][]byte{nil, {}, {90}, erased(), make([]byte, 128), whole[:127], append(bytes.Clone(whole), 0), torn(whole, 127), torn(full, 127), torn(full, 0), torn(full, 1), torn(full, 60),
		append([]byte{7, 126}, full[2:]...), append([]byte{7, 255}, full[2:]...), append(bytes.Clone(whole[:126]), 1, 90)}
}

func TestJoinRefusesWhatIsNoFramedPage(t *testing.T) {
	l := divided(7, unlike(4*maxBody+9))
	for i := range l {
		for _, b := range notFramed() {
			other := slices.Clone(l)
			other[i] = b
			checkJoinRefuses(t, "no framed page", other)
			checkJoinRefuses(t, "no framed page at the end", other[:i+1])
		}
	}
	for _, b := range notFramed() {
		checkJoinRefuses(t, "no framed page alone", [][]byte{b})
		checkJoinRefuses(t, "no framed page ahead", append([][]byte{b}, l...))
	}
}

func TestJoinRefusesPagesWithoutFirst(t *testing.T) {
	for _, n := range []int{0, 1, 125, 126, 500} {
		l := divided(7, unlike(n))
		l[0][0] -= 64
		checkJoinRefuses(t, "without First", l)
	}
	l := divided(7, unlike(500))
	for i := 1; i < len(l); i++ {
		checkJoinRefuses(t, "without the first pages", l[i:])
	}
}

func TestJoinRefusesASecondFirst(t *testing.T) {
	for _, n := range []int{126, 250, 251, 600} {
		for i := 1; i < len(divided(7, unlike(n))); i++ {
			l := divided(7, unlike(n))
			l[i][0] += 64
			checkJoinRefuses(t, "with a second First", l)
		}
	}
	// A byte string that was begun, and another one behind it.
	l := divided(7, unlike(500))
	for i := 1; i < len(l); i++ {
		checkJoinRefuses(t, "begun again", slices.Concat(l[:i], l))
		checkJoinRefuses(t, "another one", append(slices.Clone(l[:i]), divided(7, nil)...))
	}
}

func TestJoinRefusesMixedKinds(t *testing.T) {
	for _, n := range []int{126, 250, 251, 600} {
		for i := range divided(7, unlike(n)) {
			for _, kind := range []byte{0, 6, 8, 63} {
				l := divided(7, unlike(n))
				l[i][0] = l[i][0] - 7 + kind
				checkJoinRefuses(t, "with mixed kinds", l)
			}
		}
	}
	// Kind 0 is one as each other.
	l := divided(0, unlike(300))
	l[1][0]++
	checkJoinRefuses(t, "0, 1, 0", l)
	l[2][0]++
	checkJoinRefuses(t, "0, 1, 1", l)
	l[0][0]++
	checkJoin(t, l, stored{1, unlike(300), 3})
}

func TestJoinRefusesAPageThatIsNotFull(t *testing.T) {
	for i := range 4 {
		for n := range maxBody {
			l := divided(7, unlike(4*maxBody+9))
			f, _ := taken(l[i])
			f.Data = f.Data[:n]
			l[i] = laid(f)
			checkJoinRefuses(t, "with a page that is not full", l)
			checkJoinRefuses(t, "which ends with a page that is not full", l[:i+1])
		}
	}
}

func TestJoinRefusesPagesWithoutLast(t *testing.T) {
	l := divided(7, unlike(maxBytes))
	for n := range l {
		checkJoinRefuses(t, "without Last", l[:n])
	}
	l[63][0] -= 128
	checkJoinRefuses(t, "64 without Last", l)
	for _, b := range [][]byte{part(), nil, erased(), laid(api.Frame{Kind: 7, Last: true}), laid(api.Frame{Kind: 7, Last: true, Data: unlike(125)}), laid(api.Frame{Kind: 7, First: true, Last: true})} {
		checkJoinRefuses(t, "64 without Last, and one more", append(slices.Clone(l), b))
	}
	for range 100 {
		l = append(l, part())
	}
	checkJoinRefuses(t, "164 without Last", l)
}

func TestJoinOfTheMostPages(t *testing.T) {
	l := divided(7, unlike(maxBytes))
	checkJoin(t, l, stored{7, unlike(maxBytes), 64})
	checkJoin(t, append(slices.Clone(l), part()), stored{7, unlike(maxBytes), 64})
	checkJoin(t, append(slices.Clone(l), nil), stored{7, unlike(maxBytes), 64})
	// A page more stands in between, and the one with Last is the 65th.
	checkJoinRefuses(t, "65 pages", slices.Insert(slices.Clone(l), 63, part()))
	checkJoinRefuses(t, "65 pages", slices.Insert(slices.Clone(l), 1, part()))
}

func TestJoinDoesNotExamineWhatIsBehindLast(t *testing.T) {
	behind := append(notFramed(), part(), laid(api.Frame{Kind: 8}), laid(api.Frame{Kind: 7, First: true, Data: unlike(3)}), laid(api.Frame{Kind: 7, Last: true, Data: unlike(3)}), laid(api.Frame{Kind: 63, First: true, Last: true}))
	for _, n := range []int{0, 1, 125, 126, 300, 1000} {
		l := divided(7, unlike(n))
		for _, b := range behind {
			checkJoin(t, append(slices.Clone(l), b), stored{7, unlike(n), len(l)})
			checkJoin(t, append(slices.Clone(l), b, b, nil), stored{7, unlike(n), len(l)})
		}
		checkJoin(t, slices.Concat(l, l), stored{7, unlike(n), len(l)})
		checkJoin(t, append(slices.Clone(l), make([][]byte, 200)...), stored{7, unlike(n), len(l)})
	}
}

func TestJoinOfAnyPages(t *testing.T) {
	d := dice(3)
	for range 20000 {
		l := d.pages()
		if s, ok := joined(l); ok {
			checkJoin(t, l, s)
		} else {
			checkJoinRefuses(t, "any pages", l)
		}
	}
}

// P9.4

func TestLayAndTakeAreInverse(t *testing.T) {
	for head := range 256 {
		for n := range maxBody + 1 {
			f := api.Frame{Kind: uint8(head % 64), First: head/64%2 == 1, Last: head >= 128, Data: unlike(n)}
			b, err := page.Lay(f)
			if err != api.OK {
				t.Fatalf("Lay(%v) returns %d", f, err)
			}
			checkTake(t, b, f)
		}
	}
	d := dice(4)
	for range 5000 {
		b := d.page()
		if f, err := page.Take(b); err == api.OK {
			checkLay(t, f, b)
		}
	}
}

func TestJoinRestoresWhatSplitDivided(t *testing.T) {
	d := dice(5)
	for n := range maxBytes + 1 {
		kind, b := uint8(d.roll(64)), d.bytes(n)
		l, err := page.Split(kind, b)
		if err != api.OK {
			t.Fatalf("Split of %d bytes returns %d", n, err)
		}
		checkJoin(t, l, stored{kind, b, len(l)})
	}
}

func TestJoinRestoresOneByteStringBehindTheOther(t *testing.T) {
	var l [][]byte
	var want []stored
	d := dice(6)
	for range 200 {
		kind, b := uint8(d.roll(64)), d.bytes(d.roll(700))
		pages, _ := page.Split(kind, b)
		l = append(l, pages...)
		want = append(want, stored{kind, b, len(pages)})
	}
	for _, s := range want {
		checkJoin(t, l, s)
		l = l[s.pages:]
	}
}

// P9.5

func TestTakeRefusesAPageThatWasNotProgrammedToItsEnd(t *testing.T) {
	d := dice(7)
	l := []api.Frame{{}, {Kind: 63, First: true, Last: true}, {Kind: 63, First: true, Last: true, Data: filled(255, maxBody)}, {Data: filled(255, 60)}, {Data: filled(90, maxBody)}, {Data: make([]byte, maxBody)}}
	for range 100 {
		l = append(l, d.frame())
	}
	for _, f := range l {
		b := laid(f)
		for n := range b {
			checkTakeRefuses(t, torn(b, n))
		}
		checkTake(t, torn(b, pageSize), f)
	}
}

func TestPagesOfAFlashThatFailed(t *testing.T) {
	want := api.Frame{Kind: 5, First: true, Last: true, Data: unlike(77)}
	b, _ := page.Lay(want)
	for n := range pageSize + 1 {
		f, _ := flash.New(1, 2)
		f.Program(0, 0, b)
		f.Crash([]int{n})
		got, err := f.Read(0, 0)
		if err != api.OK {
			t.Fatal(err)
		}
		if n < pageSize {
			checkTakeRefuses(t, got)
			checkJoinRefuses(t, "torn", [][]byte{got})
		} else {
			checkTake(t, got, want)
		}
		never, _ := f.Read(0, 1)
		checkTakeRefuses(t, never)
	}
}

func TestJoinRefusesPagesOfWhichOneWasNotProgrammedToItsEnd(t *testing.T) {
	for i := range divided(7, unlike(300)) {
		for n := range pageSize {
			l := divided(7, unlike(300))
			l[i] = torn(l[i], n)
			checkJoinRefuses(t, "torn", l)
			for k := i + 1; k < len(l); k++ {
				l[k] = erased()
			}
			checkJoinRefuses(t, "torn, and erased behind", l)
		}
	}
}

// Rules 3 to 6 of the document

// guarded returns the bytes as a part of a greater array, and that array.
func guarded(s []byte) (inner, array []byte) {
	array = append([]byte("<<<"), s...)
	array = append(array, filled('>', 200)...)
	return array[3 : 3+len(s) : len(array)], array
}

// spoil changes all bytes of a result, those behind its length too.
func spoil(b []byte) {
	b = b[:cap(b)]
	for i := range b {
		b[i] ^= 0xff
	}
}

// strings are byte strings of some lengths; a page frames those of up to 125 bytes.
func strings() [][]byte {
	var l [][]byte
	for _, n := range []int{0, 1, 2, 60, 124, 125, 126, 127, 250, 251, 1000, 7999, 8000, 8001} {
		l = append(l, unlike(n), filled(255, n))
	}
	return l
}

func TestBytesHandedInAreNotChanged(t *testing.T) {
	for _, s := range strings() {
		inner, array := guarded(s)
		before := bytes.Clone(array)
		for _, kind := range []uint8{0, 63, 64} {
			page.Lay(api.Frame{Kind: kind, First: true, Data: inner})
			page.Split(kind, inner)
		}
		page.Take(inner)
		page.Join([][]byte{inner})
		if !bytes.Equal(array, before) {
			t.Errorf("%d bytes %.40q were changed", len(s), s)
		}
	}
	d := dice(8)
	for range 1000 {
		b := d.page()
		inner, array := guarded(b)
		before := bytes.Clone(array)
		page.Take(inner)
		if !bytes.Equal(array, before) {
			t.Errorf("a page %v was changed", b)
		}
	}
}

func TestPagesHandedInAreNotChanged(t *testing.T) {
	d := dice(9)
	for range 1000 {
		var l, arrays, before [][]byte
		for _, b := range d.pages() {
			inner, array := guarded(b)
			l, arrays, before = append(l, inner), append(arrays, array), append(before, bytes.Clone(array))
		}
		beyond := append(slices.Clone(l), []byte("beyond"))
		page.Join(beyond[:len(l)])
		if !slices.EqualFunc(arrays, before, bytes.Equal) || !slices.EqualFunc(l, beyond[:len(l)], bytes.Equal) || string(beyond[len(l)]) != "beyond" {
			t.Errorf("%d pages were changed", len(l))
		}
	}
}

func TestBeyondTheLengthIsNotRead(t *testing.T) {
	data := unlike(maxBytes + 1)
	for n := range maxBody + 1 {
		checkLay(t, api.Frame{Data: data[:n]}, laid(api.Frame{Data: data[:n:n]}))
	}
	for _, n := range []int{0, 1, 125, 126, 250, 300, 7999, 8000} {
		checkSplit(t, 1, data[:n], divided(1, data[:n:n]))
	}
	b := append(laid(api.Frame{Kind: 1, First: true, Last: true, Data: unlike(3)}), 1, 2, 3)
	checkTake(t, b[:128], api.Frame{Kind: 1, First: true, Last: true, Data: unlike(3)})
	checkTakeRefuses(t, b[:127])
	checkTakeRefuses(t, b[:0])
	l := divided(1, unlike(300))
	checkJoinRefuses(t, "with more pages beyond", l[:2])
}

func TestAFramedPageIsTheCallersOwn(t *testing.T) {
	for _, s := range strings()[:12] {
		inner, array := guarded(s)
		before := bytes.Clone(array)
		f := api.Frame{Kind: 3, Data: inner}
		one, _ := page.Lay(f)
		other, _ := page.Lay(f)
		spoil(one)
		if !bytes.Equal(other, laid(f)) || !bytes.Equal(array, before) {
			t.Errorf("a page of %d bytes shares memory with another one, or with its data", len(s))
		}
		spoil(array)
		if !bytes.Equal(other, laid(api.Frame{Kind: 3, Data: s})) {
			t.Errorf("a page keeps its %d bytes of data", len(s))
		}
	}
}

func TestAFrameIsTheCallersOwn(t *testing.T) {
	for _, s := range strings()[:12] {
		want := api.Frame{Kind: 3, First: true, Data: s}
		inner, array := guarded(laid(want))
		before := bytes.Clone(array)
		one, _ := page.Take(inner)
		other, _ := page.Take(inner)
		spoil(one.Data)
		if !sameFrame(other, want) || !bytes.Equal(array, before) {
			t.Errorf("a frame of %d bytes shares memory with another one, or with its page", len(s))
		}
		spoil(array)
		if !sameFrame(other, want) {
			t.Errorf("a frame keeps its page of %d bytes", len(s))
		}
	}
}

func TestPagesAreTheCallersOwn(t *testing.T) {
	for _, s := range strings()[:26] {
		inner, array := guarded(s)
		before := bytes.Clone(array)
		one, _ := page.Split(3, inner)
		other, _ := page.Split(3, inner)
		want := divided(3, s)
		for i := range one {
			spoil(one[i])
		}
		clear(one[:cap(one)])
		if !slices.EqualFunc(other, want, bytes.Equal) || !bytes.Equal(array, before) {
			t.Errorf("pages of %d bytes share memory with others, or with their bytes", len(s))
		}
		spoil(array)
		if !slices.EqualFunc(other, want, bytes.Equal) {
			t.Errorf("pages keep their %d bytes", len(s))
		}
	}
}

func TestPagesOfOneResultDoNotShareMemory(t *testing.T) {
	for i := range divided(3, unlike(700)) {
		l, _ := page.Split(3, unlike(700))
		want := divided(3, unlike(700))
		spoil(l[i])
		l[i] = want[i]
		if !slices.EqualFunc(l, want, bytes.Equal) {
			t.Errorf("page %d shares memory with another one", i)
		}
	}
}

func TestJoinedBytesAreTheCallersOwn(t *testing.T) {
	for _, s := range strings()[:26] {
		l := divided(3, s)
		_, one, _, _ := page.Join(l)
		_, other, _, _ := page.Join(l)
		spoil(one)
		if !bytes.Equal(other, s) || !slices.EqualFunc(l, divided(3, s), bytes.Equal) {
			t.Errorf("%d bytes share memory with others, or with their pages", len(s))
		}
		for _, b := range l {
			spoil(b)
		}
		if !bytes.Equal(other, s) {
			t.Errorf("%d bytes share memory with their pages", len(s))
		}
	}
}

func TestSameCallsSameResults(t *testing.T) {
	d := dice(10)
	f := api.Frame{Kind: 3, First: true, Data: unlike(80)}
	b := unlike(300)
	for range 500 {
		other := d.frame()
		page.Lay(other)
		page.Take(d.page())
		page.Split(other.Kind, d.bytes(d.roll(9000)))
		page.Join(d.pages())
		checkLay(t, f, laid(f))
		checkTake(t, laid(f), f)
		checkSplit(t, 3, b, divided(3, b))
		checkJoin(t, divided(3, b), stored{3, b, 3})
	}
}
