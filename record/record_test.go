package record_test

import (
	"bytes"
	"math"
	"slices"
	"testing"

	"pumice/api"
	"pumice/page"
	"pumice/record"
)

// unlike returns n bytes that do not come again soon.
func unlike(n int) []byte {
	b := make([]byte, n)
	for i := range b {
		b[i] = byte(7 + i%125 + i/125)
	}
	return b
}

func filled(c byte, n int) []byte {
	return bytes.Repeat([]byte{c}, n)
}

// someKey returns a key of which all bytes are different.
func someKey() api.Key {
	return api.Key{Sum: api.Sum(unlike(32)), N: 0xC4C3C2C1}
}

// kinds returns a note of each kind with all its fields, NoteWrite also without Data.
func kinds() []api.Note {
	return []api.Note{
		{Kind: api.NoteWrite, Addr: 0xA4A3A2A1, Seq: 0xB8B7B6B5B4B3B2B1, Key: someKey(), Data: []byte("chunk")},
		{Kind: api.NoteWrite, Addr: 0xA4A3A2A1, Seq: 0xB8B7B6B5B4B3B2B1, Key: someKey()},
		{Kind: api.NoteTrim, Addr: 0xA4A3A2A1, Seq: 0xB8B7B6B5B4B3B2B1},
		{Kind: api.NoteDone, Seq: 0xB8B7B6B5B4B3B2B1},
		{Kind: api.NoteMove, Key: someKey(), Data: []byte("chunk")},
	}
}

// bare returns a note of each kind with as little as may be.
func bare() []api.Note {
	return []api.Note{{Kind: api.NoteWrite}, {Kind: api.NoteTrim}, {Kind: api.NoteDone}, {Kind: api.NoteMove, Data: []byte{0}}}
}

// keyBits returns keys of which one bit is set.
func keyBits() []api.Key {
	var l []api.Key
	for i := range 256 {
		var k api.Key
		k.Sum[i/8] = 1 << (i % 8)
		l = append(l, k)
	}
	for i := range 32 {
		l = append(l, api.Key{N: 1 << i})
	}
	return l
}

// checkValid checks all that is promised of a valid note and its bytes.
func checkValid(t *testing.T, n api.Note, want []byte) {
	t.Helper()
	if !record.Right(n) {
		t.Errorf("Right(%v) returns false", n)
	}
	if b, err := record.Lay(n); !bytes.Equal(b, want) || err != api.OK {
		t.Errorf("Lay(%v) returns %v, %d; not %v", n, b, err, want)
	}
	if m, err := record.Take(want); !sameNote(m, n) || err != api.OK {
		t.Errorf("Take(%v) returns %v, %d; not %v", want, m, err, n)
	}
	l, err := page.Split(1, want)
	if pages := record.Pages(n); pages != len(l) || err != api.OK {
		t.Errorf("Pages(%v) returns %d; Split returns %d pages, %d", n, pages, len(l), err)
	}
}

// checkInvalid checks all that is promised of a note that is not valid.
func checkInvalid(t *testing.T, n api.Note) {
	t.Helper()
	if record.Right(n) {
		t.Errorf("Right(%v) returns true", n)
	}
	if b, err := record.Lay(n); len(b) != 0 || err != api.ErrArg {
		t.Errorf("Lay(%v) returns %v, %d", n, b, err)
	}
	if pages := record.Pages(n); pages != 0 {
		t.Errorf("Pages(%v) returns %d", n, pages)
	}
}

func checkTakeRefuses(t *testing.T, b []byte) {
	t.Helper()
	if n, err := record.Take(b); !sameNote(n, api.Note{}) || err != api.ErrNote {
		t.Errorf("Take(%v) returns %v, %d", b, n, err)
	}
}

func checkPages(t *testing.T, n api.Note, want int) {
	t.Helper()
	if pages := record.Pages(n); pages != want {
		t.Errorf("Pages of a note of kind %d with %d bytes returns %d, not %d", n.Kind, len(n.Data), pages, want)
	}
}

// P10.1: Right

func TestRightOfEachKind(t *testing.T) {
	for _, n := range slices.Concat(kinds(), bare()) {
		if !record.Right(n) {
			t.Errorf("Right(%v) returns false", n)
		}
	}
}

func TestRightRefusesOtherKinds(t *testing.T) {
	for kind := range 256 {
		if kind >= 1 && kind <= 4 {
			continue
		}
		for _, n := range slices.Concat(kinds(), bare(), []api.Note{{}}) {
			n.Kind = uint8(kind)
			checkInvalid(t, n)
		}
	}
}

func TestRightRefusesAnAddrThatTheKindDoesNotHave(t *testing.T) {
	for i := range 32 {
		checkInvalid(t, api.Note{Kind: api.NoteDone, Addr: 1 << i})
		checkInvalid(t, api.Note{Kind: api.NoteDone, Addr: 1 << i, Seq: 5})
		checkInvalid(t, api.Note{Kind: api.NoteMove, Addr: 1 << i, Data: []byte{1}})
		checkInvalid(t, api.Note{Kind: api.NoteMove, Addr: 1 << i, Key: someKey(), Data: []byte{1}})
	}
}

func TestRightRefusesASeqThatTheKindDoesNotHave(t *testing.T) {
	for i := range 64 {
		checkInvalid(t, api.Note{Kind: api.NoteMove, Seq: 1 << i, Data: []byte{1}})
		checkInvalid(t, api.Note{Kind: api.NoteMove, Seq: 1 << i, Key: someKey(), Data: unlike(300)})
	}
}

func TestRightRefusesAKeyThatTheKindDoesNotHave(t *testing.T) {
	for _, k := range append(keyBits(), someKey()) {
		checkInvalid(t, api.Note{Kind: api.NoteTrim, Key: k})
		checkInvalid(t, api.Note{Kind: api.NoteTrim, Addr: 1, Seq: 2, Key: k})
		checkInvalid(t, api.Note{Kind: api.NoteDone, Key: k})
		checkInvalid(t, api.Note{Kind: api.NoteDone, Seq: 2, Key: k})
	}
}

func TestRightRefusesDataThatTheKindDoesNotHave(t *testing.T) {
	for _, data := range [][]byte{{0}, {1}, {0, 0}, unlike(299), unlike(300), unlike(301), make([]byte, 300)} {
		checkInvalid(t, api.Note{Kind: api.NoteTrim, Data: data})
		checkInvalid(t, api.Note{Kind: api.NoteTrim, Addr: 1, Seq: 2, Data: data})
		checkInvalid(t, api.Note{Kind: api.NoteDone, Data: data})
		checkInvalid(t, api.Note{Kind: api.NoteDone, Seq: 2, Data: data})
	}
}

func TestRightOfEachKeyThatTheKindHas(t *testing.T) {
	for _, k := range append(keyBits(), api.Key{}) {
		for _, n := range []api.Note{{Kind: api.NoteWrite, Key: k}, {Kind: api.NoteMove, Key: k, Data: []byte{0}}} {
			checkValid(t, n, encoded(n))
		}
	}
}

func TestRightOfEachLengthOfData(t *testing.T) {
	for size := range 700 {
		for _, data := range [][]byte{unlike(size), make([]byte, size)} {
			write := record.Right(api.Note{Kind: api.NoteWrite, Data: data})
			move := record.Right(api.Note{Kind: api.NoteMove, Data: data})
			if write != (size <= 300) || move != (size >= 1 && size <= 300) {
				t.Errorf("Right of %d bytes returns %v for a write, %v for a move", size, write, move)
			}
		}
	}
}

func TestRightRefusesLongData(t *testing.T) {
	for _, size := range []int{301, 302, 400, 512, 556, 1000, 65535, 65536, 65536 + 5, 65536 + 300, 1 << 20} {
		for _, n := range kinds() {
			n.Data = filled(3, size)
			checkInvalid(t, n)
		}
	}
}

func TestRightTakesNoBytesAsNilOnes(t *testing.T) {
	for _, data := range [][]byte{nil, {}, make([]byte, 0, 500)} {
		for _, n := range []api.Note{{Kind: api.NoteWrite, Data: data}, {Kind: api.NoteTrim, Addr: 1, Data: data}, {Kind: api.NoteDone, Data: data}} {
			checkValid(t, n, encoded(n))
		}
		checkInvalid(t, api.Note{Kind: api.NoteMove, Data: data})
		checkInvalid(t, api.Note{Kind: api.NoteMove, Key: someKey(), Data: data})
	}
}

func TestRightOfAnyNotes(t *testing.T) {
	d := dice(1)
	right := 0
	for range 30000 {
		n := d.any()
		if valid(n) {
			right++
			checkValid(t, n, encoded(n))
		} else {
			checkInvalid(t, n)
		}
	}
	if right < 1000 {
		t.Errorf("only %d notes are valid", right)
	}
}

// P10.2: Lay and Take

func TestLayOfTheExample(t *testing.T) {
	n := api.Note{Kind: api.NoteDone, Seq: 5}
	checkValid(t, n, []byte{3, 5, 0, 0, 0, 0, 0, 0, 0})
	checkPages(t, n, 1)
}

func TestLayOfAWrite(t *testing.T) {
	want := []byte{1, 0xA1, 0xA2, 0xA3, 0xA4, 0xB1, 0xB2, 0xB3, 0xB4, 0xB5, 0xB6, 0xB7, 0xB8}
	want = append(want, 7, 8, 9, 10, 11, 12, 13, 14, 15, 16, 17, 18, 19, 20, 21, 22)
	want = append(want, 23, 24, 25, 26, 27, 28, 29, 30, 31, 32, 33, 34, 35, 36, 37, 38)
	want = append(want, 0xC1, 0xC2, 0xC3, 0xC4)
	checkValid(t, kinds()[0], append(bytes.Clone(want), 5, 0, 'c', 'h', 'u', 'n', 'k'))
	checkValid(t, kinds()[1], append(bytes.Clone(want), 0, 0))
}

func TestLayOfATrim(t *testing.T) {
	checkValid(t, kinds()[2], []byte{2, 0xA1, 0xA2, 0xA3, 0xA4, 0xB1, 0xB2, 0xB3, 0xB4, 0xB5, 0xB6, 0xB7, 0xB8})
}

func TestLayOfADone(t *testing.T) {
	checkValid(t, kinds()[3], []byte{3, 0xB1, 0xB2, 0xB3, 0xB4, 0xB5, 0xB6, 0xB7, 0xB8})
}

func TestLayOfAMove(t *testing.T) {
	want := append([]byte{4}, unlike(32)...)
	want = append(want, 0xC1, 0xC2, 0xC3, 0xC4, 5, 0, 'c', 'h', 'u', 'n', 'k')
	checkValid(t, kinds()[4], want)
}

func TestLayOfZeroFields(t *testing.T) {
	checkValid(t, api.Note{Kind: api.NoteWrite}, append([]byte{1}, make([]byte, 50)...))
	checkValid(t, api.Note{Kind: api.NoteTrim}, append([]byte{2}, make([]byte, 12)...))
	checkValid(t, api.Note{Kind: api.NoteDone}, append([]byte{3}, make([]byte, 8)...))
	want := append([]byte{4}, make([]byte, 36)...)
	checkValid(t, api.Note{Kind: api.NoteMove, Data: []byte{0}}, append(want, 1, 0, 0))
}

func TestLayOfTheGreatestFields(t *testing.T) {
	key := api.Key{Sum: api.Sum(filled(255, 32)), N: math.MaxUint32}
	n := api.Note{Kind: api.NoteWrite, Addr: math.MaxUint32, Seq: math.MaxUint64, Key: key, Data: filled(255, 300)}
	data := append([]byte{44, 1}, filled(255, 300)...)
	checkValid(t, n, slices.Concat([]byte{1}, filled(255, 48), data))
	checkValid(t, api.Note{Kind: api.NoteTrim, Addr: math.MaxUint32, Seq: math.MaxUint64}, append([]byte{2}, filled(255, 12)...))
	checkValid(t, api.Note{Kind: api.NoteDone, Seq: math.MaxUint64}, append([]byte{3}, filled(255, 8)...))
	checkValid(t, api.Note{Kind: api.NoteMove, Key: key, Data: filled(255, 300)}, slices.Concat([]byte{4}, filled(255, 36), data))
}

func TestLayOfEachByteOfANumber(t *testing.T) {
	for i := range 8 {
		b := make([]byte, doneSize)
		b[0], b[1+i] = 3, 200
		checkValid(t, api.Note{Kind: api.NoteDone, Seq: 200 << (8 * i)}, b)
		b = make([]byte, trimSize)
		b[0], b[5+i] = 2, 200
		checkValid(t, api.Note{Kind: api.NoteTrim, Seq: 200 << (8 * i)}, b)
		b = make([]byte, writeHead)
		b[0], b[5+i] = 1, 200
		checkValid(t, api.Note{Kind: api.NoteWrite, Seq: 200 << (8 * i)}, b)
	}
	for i := range 4 {
		b := make([]byte, trimSize)
		b[0], b[1+i] = 2, 200
		checkValid(t, api.Note{Kind: api.NoteTrim, Addr: 200 << (8 * i)}, b)
		b = make([]byte, writeHead)
		b[0], b[1+i] = 1, 200
		checkValid(t, api.Note{Kind: api.NoteWrite, Addr: 200 << (8 * i)}, b)
		b = make([]byte, writeHead)
		b[0], b[45+i] = 1, 200
		checkValid(t, api.Note{Kind: api.NoteWrite, Key: api.Key{N: 200 << (8 * i)}}, b)
		b = make([]byte, moveHead+1)
		b[0], b[33+i], b[37], b[39] = 4, 200, 1, 9
		checkValid(t, api.Note{Kind: api.NoteMove, Key: api.Key{N: 200 << (8 * i)}, Data: []byte{9}}, b)
	}
}

func TestLayOfEachByteOfASum(t *testing.T) {
	for i := range 32 {
		var k api.Key
		k.Sum[i] = 200
		b := make([]byte, writeHead)
		b[0], b[13+i] = 1, 200
		checkValid(t, api.Note{Kind: api.NoteWrite, Key: k}, b)
		b = make([]byte, moveHead+1)
		b[0], b[1+i], b[37], b[39] = 4, 200, 1, 9
		checkValid(t, api.Note{Kind: api.NoteMove, Key: k, Data: []byte{9}}, b)
	}
}

func TestLayOfEachLengthOfData(t *testing.T) {
	for size := range maxData + 1 {
		for _, data := range [][]byte{unlike(size), filled(0, size), filled(255, size)} {
			want := slices.Concat([]byte{1}, make([]byte, 48), []byte{byte(size % 256), byte(size / 256)}, data)
			checkValid(t, api.Note{Kind: api.NoteWrite, Data: data}, want)
			if size > 0 {
				want = slices.Concat([]byte{4}, make([]byte, 36), []byte{byte(size % 256), byte(size / 256)}, data)
				checkValid(t, api.Note{Kind: api.NoteMove, Data: data}, want)
			}
		}
	}
}

func TestTakeRefusesNoBytes(t *testing.T) {
	checkTakeRefuses(t, nil)
	checkTakeRefuses(t, []byte{})
	checkTakeRefuses(t, encoded(kinds()[0])[:0])
}

func TestTakeRefusesOtherKinds(t *testing.T) {
	for kind := range 256 {
		if kind >= 1 && kind <= 4 {
			continue
		}
		checkTakeRefuses(t, []byte{byte(kind)})
		for _, n := range slices.Concat(kinds(), bare()) {
			b := encoded(n)
			b[0] = byte(kind)
			checkTakeRefuses(t, b)
		}
	}
}

func TestTakeRefusesTheBytesOfAnotherKind(t *testing.T) {
	for _, n := range slices.Concat(kinds(), bare()) {
		for kind := range 6 {
			b := encoded(n)
			b[0] = byte(kind)
			if uint8(kind) != n.Kind {
				checkTakeRefuses(t, b)
			}
		}
	}
}

func TestTakeRefusesLongData(t *testing.T) {
	for _, size := range []int{301, 302, 400, 511, 512, 512 + 44, 1000, 65535} {
		length := []byte{byte(size % 256), byte(size / 256)}
		for _, data := range [][]byte{unlike(size), make([]byte, size)} {
			checkTakeRefuses(t, slices.Concat([]byte{1}, make([]byte, 48), length, data))
			checkTakeRefuses(t, slices.Concat([]byte{4}, make([]byte, 36), length, data))
		}
	}
}

func TestTakeRefusesAMoveWithoutData(t *testing.T) {
	checkTakeRefuses(t, append([]byte{4}, make([]byte, 38)...))
	checkTakeRefuses(t, slices.Concat([]byte{4}, unlike(32), []byte{1, 2, 3, 4, 0, 0}))
	checkTakeRefuses(t, slices.Concat([]byte{4}, unlike(32), []byte{1, 2, 3, 4, 0, 0, 9}))
}

func TestTakeRefusesAnotherLength(t *testing.T) {
	for _, size := range []int{0, 1, 2, 100, 255, 256, 299, 300} {
		for length := range 400 {
			if length == size {
				continue
			}
			l := []byte{byte(length % 256), byte(length / 256)}
			checkTakeRefuses(t, slices.Concat([]byte{1}, make([]byte, 48), l, unlike(size)))
			checkTakeRefuses(t, slices.Concat([]byte{4}, make([]byte, 36), l, unlike(size)))
		}
	}
}

func TestTakeOfAnyBytes(t *testing.T) {
	d := dice(2)
	right := 0
	for range 30000 {
		b := d.encoding()
		n, ok := decoded(b)
		if ok {
			right++
			checkValid(t, n, b)
		} else {
			checkTakeRefuses(t, b)
		}
	}
	if right < 10000 || right > 25000 {
		t.Errorf("%d of the bytes are notes", right)
	}
}

func TestTakeOfShortBytes(t *testing.T) {
	for kind := range 6 {
		for size := range 60 {
			for _, rest := range [][]byte{make([]byte, size), unlike(size), filled(1, size), filled(255, size)} {
				b := append([]byte{byte(kind)}, rest...)
				if n, ok := decoded(b); ok {
					checkValid(t, n, b)
				} else {
					checkTakeRefuses(t, b)
				}
			}
		}
	}
}

// P10.2: Pages

func TestPagesOfTheExample(t *testing.T) {
	checkPages(t, api.Note{Kind: api.NoteDone, Seq: 5}, 1)
	checkPages(t, api.Note{Kind: api.NoteWrite, Data: unlike(300)}, 3)
}

func TestPagesOfEachKind(t *testing.T) {
	for _, n := range slices.Concat(kinds(), bare()) {
		checkPages(t, n, 1)
	}
	checkPages(t, api.Note{Kind: api.NoteMove, Data: unlike(300)}, 3)
}

func TestPagesAroundFullOnes(t *testing.T) {
	// No note has 375 bytes: the longest one has 351, on three pages.
	for _, x := range []struct{ size, pages int }{{124, 1}, {125, 1}, {126, 2}, {249, 2}, {250, 2}, {251, 3}, {339, 3}} {
		checkPages(t, api.Note{Kind: api.NoteWrite, Data: unlike(x.size - writeHead)}, x.pages)
		checkPages(t, api.Note{Kind: api.NoteMove, Data: unlike(x.size - moveHead)}, x.pages)
	}
	for _, size := range []int{350, 351} {
		checkPages(t, api.Note{Kind: api.NoteWrite, Data: unlike(size - writeHead)}, 3)
	}
}

func TestPagesOfEachLengthAreThoseOfSplit(t *testing.T) {
	for size := range maxData + 1 {
		for _, n := range kinds() {
			if n.Kind == api.NoteMove && size == 0 || n.Kind == api.NoteTrim || n.Kind == api.NoteDone {
				continue
			}
			n.Data = unlike(size)
			b, _ := record.Lay(n)
			l, err := page.Split(63, b)
			if err != api.OK || (len(b)+maxBody-1)/maxBody != len(l) {
				t.Fatalf("Split of %d bytes returns %d pages, %d", len(b), len(l), err)
			}
			checkPages(t, n, len(l))
		}
	}
}

func TestPagesOfANoteThatIsNotValid(t *testing.T) {
	for _, n := range []api.Note{{}, {Kind: 5}, {Kind: 255}, {Kind: 0, Data: unlike(10)}, {Kind: 5, Data: unlike(300)}, {Kind: api.NoteWrite, Data: unlike(301)}, {Kind: api.NoteWrite, Data: unlike(324)}, {Kind: api.NoteWrite, Data: unlike(325)}, {Kind: api.NoteTrim, Data: []byte{1}}, {Kind: api.NoteDone, Addr: 1}, {Kind: api.NoteMove}, {Kind: api.NoteMove, Data: unlike(301)}, {Kind: api.NoteMove, Data: unlike(70000)}} {
		checkPages(t, n, 0)
	}
}

// P10.3: Lay and Take are inverse

func TestTakeOfLayIsTheNote(t *testing.T) {
	d := dice(3)
	for range 10000 {
		n := d.note()
		b, err := record.Lay(n)
		m, more := record.Take(b)
		if err != api.OK || more != api.OK || !sameNote(m, n) {
			t.Errorf("Lay(%v) returns %v, %d; Take of that %v, %d", n, b, err, m, more)
		}
	}
}

func TestLayOfTakeIsTheBytes(t *testing.T) {
	d := dice(4)
	for range 20000 {
		b := d.encoding()
		n, err := record.Take(b)
		if err != api.OK {
			continue
		}
		if back, err := record.Lay(n); err != api.OK || !bytes.Equal(back, b) {
			t.Errorf("Take(%v) returns %v; Lay of that %v, %d", b, n, back, err)
		}
	}
}

func TestNoTwoNotesHaveTheSameBytes(t *testing.T) {
	seen := map[string]api.Note{}
	for _, n := range slices.Concat(kinds(), bare()) {
		b, err := record.Lay(n)
		if m, ok := seen[string(b)]; ok || err != api.OK {
			t.Errorf("Lay of %v and of %v returns %v, %d", n, m, b, err)
		}
		seen[string(b)] = n
	}
}

// P10.4: bytes that end too early, and bytes behind

func TestTakeRefusesEveryProperPrefix(t *testing.T) {
	d := dice(5)
	notes := slices.Concat(kinds(), bare())
	for range 300 {
		notes = append(notes, d.note())
	}
	for _, n := range notes {
		b := encoded(n)
		for size := range b {
			checkTakeRefuses(t, b[:size])
			checkTakeRefuses(t, bytes.Clone(b[:size]))
		}
	}
}

func TestTakeRefusesMoreBytes(t *testing.T) {
	d := dice(6)
	notes := slices.Concat(kinds(), bare())
	for range 300 {
		notes = append(notes, d.note())
	}
	for _, n := range notes {
		b := encoded(n)
		for _, more := range [][]byte{{0}, {1}, {90}, {255}, {0, 0}, unlike(100), b, make([]byte, 1000)} {
			checkTakeRefuses(t, slices.Concat(b, more))
		}
	}
}

func TestTakeRefusesEveryByteBehind(t *testing.T) {
	for _, n := range slices.Concat(kinds(), bare()) {
		for c := range 256 {
			checkTakeRefuses(t, append(encoded(n), byte(c)))
		}
	}
}

// Rules 3 to 6 of the document

// guarded returns the bytes as a part of a greater array, and that array.
func guarded(s []byte) (inner, array []byte) {
	array = append([]byte("<<<"), s...)
	array = append(array, filled('>', 200)...)
	return array[3 : 3+len(s) : len(array)], array
}

// spoil changes all bytes of a result, those behind its length too.
func spoil(b []byte) {
	b = b[:cap(b)]
	for i := range b {
		b[i] ^= 0xff
	}
}

func TestBytesHandedInAreNotChanged(t *testing.T) {
	d := dice(7)
	for range 3000 {
		n := d.any()
		inner, array := guarded(n.Data)
		before := bytes.Clone(array)
		n.Data = inner
		record.Right(n)
		record.Lay(n)
		record.Pages(n)
		if !bytes.Equal(array, before) {
			t.Errorf("the data of %v were changed", n)
		}
		inner, array = guarded(d.encoding())
		before = bytes.Clone(array)
		record.Take(inner)
		if !bytes.Equal(array, before) {
			t.Errorf("the bytes %v were changed", inner)
		}
	}
}

func TestBeyondTheLengthIsNotRead(t *testing.T) {
	data := unlike(maxData + 20)
	for size := range maxData + 1 {
		n := api.Note{Kind: api.NoteWrite, Addr: 1, Data: data[:size]}
		checkValid(t, n, encoded(n))
	}
	checkInvalid(t, api.Note{Kind: api.NoteMove, Data: data[:0]})
	for _, n := range kinds() {
		b := append(encoded(n), 1, 2, 3)
		checkValid(t, n, b[:len(b)-3])
		checkTakeRefuses(t, b[:len(b)-4])
	}
}

func TestTheBytesOfANoteAreTheCallersOwn(t *testing.T) {
	d := dice(8)
	for range 1000 {
		n := d.note()
		want := encoded(n)
		inner, array := guarded(n.Data)
		before := bytes.Clone(array)
		n.Data = inner
		one, _ := record.Lay(n)
		other, _ := record.Lay(n)
		spoil(one)
		if !bytes.Equal(other, want) || !bytes.Equal(array, before) {
			t.Errorf("the bytes of %v share memory with others, or with its data", n)
		}
		spoil(array)
		if !bytes.Equal(other, want) {
			t.Errorf("the bytes of %v keep its data", n)
		}
	}
}

func TestANoteIsTheCallersOwn(t *testing.T) {
	d := dice(9)
	for range 1000 {
		want := d.note()
		inner, array := guarded(encoded(want))
		before := bytes.Clone(array)
		one, _ := record.Take(inner)
		other, _ := record.Take(inner)
		spoil(one.Data)
		if !sameNote(other, want) || !bytes.Equal(array, before) {
			t.Errorf("the note %v shares memory with another one, or with its bytes", want)
		}
		spoil(array)
		if !sameNote(other, want) {
			t.Errorf("the note %v keeps its bytes", want)
		}
	}
}

func TestTheSameCallsReturnTheSame(t *testing.T) {
	d := dice(10)
	for range 2000 {
		n, b := d.any(), d.encoding()
		one, err := record.Lay(n)
		got, wrong := record.Take(b)
		record.Lay(d.any())
		record.Take(d.encoding())
		two, again := record.Lay(n)
		more, still := record.Take(b)
		if !bytes.Equal(one, two) || err != again || !sameNote(got, more) || wrong != still {
			t.Errorf("Lay(%v) or Take(%v) returns something else the second time", n, b)
		}
	}
}

func TestSeveralAtATime(t *testing.T) {
	done := make(chan bool)
	for i := range 8 {
		go func() {
			d := dice(100 + i)
			same := true
			for range 500 {
				n := d.note()
				b, err := record.Lay(n)
				m, wrong := record.Take(b)
				same = same && err == api.OK && wrong == api.OK && sameNote(m, n)
			}
			done <- same
		}()
	}
	for range 8 {
		if !<-done {
			t.Error("Lay or Take returns something else when others call it, too")
		}
	}
}
