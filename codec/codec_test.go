package codec_test

import (
	"bytes"
	"math"
	"testing"

	"pumice/api"
	"pumice/codec"
)

// item is one thing that a writer writes and a reader reads.
type item struct {
	kind rune // n: number, r: raw bytes, b: blob
	num  uint64
	many int
	data []byte
}

func num(n uint64, many int) item { return item{kind: 'n', num: n, many: many} }
func raw(b []byte) item           { return item{kind: 'r', data: b} }
func blob(b []byte) item          { return item{kind: 'b', data: b} }

func (x item) write(w *codec.Writer) {
	switch x.kind {
	case 'n':
		w.Num(x.num, x.many)
	case 'r':
		w.Raw(x.data)
	default:
		w.Blob(x.data)
	}
}

// bytes returns what the item is expected to be written as, worked out by other means than the package's.
func (x item) bytes() []byte {
	var b []byte
	switch x.kind {
	case 'n':
		n := x.num
		for len(b) < x.many {
			b = append(b, byte(n%256))
			n /= 256
		}
	case 'r':
		b = append(b, x.data...)
	default:
		b = append(b, byte(len(x.data)%256), byte(len(x.data)/256))
		b = append(b, x.data...)
	}
	return b
}

// checkRead reads the item and holds it against what was written.
func (x item) checkRead(t *testing.T, r *codec.Reader) {
	t.Helper()
	switch x.kind {
	case 'n':
		want := x.num
		if x.many < 8 {
			want = x.num % (1 << (8 * x.many))
		}
		if got := r.Num(x.many); got != want {
			t.Errorf("Num(%d) = %d, want %d", x.many, got, want)
		}
	case 'r':
		if got := r.Raw(len(x.data)); !bytes.Equal(got, x.data) {
			t.Errorf("Raw(%d) = %x, want %x", len(x.data), got, x.data)
		}
	default:
		if got := r.Blob(len(x.data)); !bytes.Equal(got, x.data) {
			t.Errorf("Blob(%d) = %x, want %x", len(x.data), got, x.data)
		}
	}
}

// pattern returns n bytes that differ from their neighbours.
func pattern(n int) []byte {
	b := make([]byte, n)
	for i := range b {
		b[i] = byte(i*7 + i/256 + 1)
	}
	return b
}

func checkOut(t *testing.T, w *codec.Writer, want []byte, err api.Errno) {
	t.Helper()
	got, e := w.Out()
	if !bytes.Equal(got, want) || e != err {
		t.Errorf("Out() = %d bytes %.20x, error %d; want %d bytes %.20x, error %d", len(got), got, e, len(want), want, err)
	}
}

func checkEnd(t *testing.T, r *codec.Reader, left int, err api.Errno) {
	t.Helper()
	if r.Left() != left || r.End() != err {
		t.Errorf("Left() = %d, End() = %d; want %d, %d", r.Left(), r.End(), left, err)
	}
}

// P1.1

func TestWriterNum(t *testing.T) {
	for _, x := range []struct {
		n    uint64
		many int
		want []byte
	}{
		{258, 3, []byte{2, 1, 0}},
		{0, 1, []byte{0}},
		{255, 1, []byte{255}},
		{256, 1, []byte{0}},
		{0x0102030405060708, 8, []byte{8, 7, 6, 5, 4, 3, 2, 1}},
		{0x0102030405060708, 7, []byte{8, 7, 6, 5, 4, 3, 2}},
		{0x0102030405060708, 4, []byte{8, 7, 6, 5}},
		{0x0102030405060708, 2, []byte{8, 7}},
		{math.MaxUint64, 8, []byte{255, 255, 255, 255, 255, 255, 255, 255}},
		{1 << 63, 8, []byte{0, 0, 0, 0, 0, 0, 0, 128}},
		{math.MaxUint64, 0, nil},
	} {
		w := codec.NewWriter(100)
		w.Num(x.n, x.many)
		checkOut(t, w, x.want, api.OK)
	}
}

func TestWriterNumRefusesMany(t *testing.T) {
	for _, many := range []int{-1, -8, 9, 10, math.MinInt, math.MaxInt} {
		w := codec.NewWriter(100)
		w.Num(7, 1)
		w.Num(8, many)
		checkOut(t, w, []byte{7}, api.ErrArg)
	}
	// Without any room the number's size is still what is wrong first.
	w := codec.NewWriter(0)
	w.Num(8, 9)
	checkOut(t, w, nil, api.ErrArg)
}

func TestWriterRaw(t *testing.T) {
	w := codec.NewWriter(100)
	w.Raw([]byte{0, 255, 10})
	w.Raw(nil)
	w.Raw([]byte{})
	w.Raw([]byte("abc"))
	checkOut(t, w, []byte{0, 255, 10, 'a', 'b', 'c'}, api.OK)

	long := pattern(70000)
	w = codec.NewWriter(len(long))
	w.Raw(long)
	checkOut(t, w, long, api.OK)
}

func TestWriterBlob(t *testing.T) {
	for _, x := range []struct {
		size int
		head []byte
	}{{0, []byte{0, 0}}, {1, []byte{1, 0}}, {255, []byte{255, 0}}, {256, []byte{0, 1}}, {65534, []byte{254, 255}}, {65535, []byte{255, 255}}} {
		b := pattern(x.size)
		w := codec.NewWriter(1 << 20)
		w.Blob(b)
		checkOut(t, w, append(x.head, b...), api.OK)
	}
	w := codec.NewWriter(100)
	w.Blob([]byte("ab"))
	checkOut(t, w, []byte{2, 0, 97, 98}, api.OK)
}

func TestWriterBlobTooLong(t *testing.T) {
	for _, size := range []int{65536, 65537, 65538, 131072} {
		w := codec.NewWriter(1 << 20)
		w.Num(7, 1)
		w.Blob(pattern(size))
		w.Num(8, 1)
		checkOut(t, w, []byte{7}, api.ErrLong)
	}
}

func TestWriterRoomJustMetAndJustMissed(t *testing.T) {
	for _, x := range []item{num(258, 3), num(math.MaxUint64, 8), num(5, 1), raw([]byte("a")), raw([]byte("abcde")), blob(nil), blob([]byte("a")), blob([]byte("ab")), blob(pattern(65535))} {
		want := x.bytes()
		for _, before := range []int{0, 1, 9} {
			head := pattern(before)
			met := codec.NewWriter(before + len(want))
			met.Raw(head)
			x.write(met)
			checkOut(t, met, append(bytes.Clone(head), want...), api.OK)

			missed := codec.NewWriter(before + len(want) - 1)
			missed.Raw(head)
			x.write(missed)
			checkOut(t, missed, head, api.ErrLong)
		}
	}
	w := codec.NewWriter(3)
	w.Blob([]byte("ab"))
	checkOut(t, w, nil, api.ErrLong)
}

func TestWriterEmptyItemsNeedNoRoom(t *testing.T) {
	w := codec.NewWriter(1)
	w.Num(9, 1)
	w.Num(9, 0)
	w.Raw(nil)
	w.Raw([]byte{})
	checkOut(t, w, []byte{9}, api.OK)
}

func TestWriterNegativeRoomIsNone(t *testing.T) {
	for _, room := range []int{0, -1, -2, -100, math.MinInt} {
		w := codec.NewWriter(room)
		w.Num(1, 0)
		w.Raw(nil)
		checkOut(t, w, nil, api.OK)
		w.Num(1, 1)
		checkOut(t, w, nil, api.ErrLong)

		for _, x := range []item{raw([]byte{1}), blob(nil), blob([]byte{1})} {
			w = codec.NewWriter(room)
			x.write(w)
			checkOut(t, w, nil, api.ErrLong)
		}
	}
}

func TestWriterGreatRoom(t *testing.T) {
	w := codec.NewWriter(math.MaxInt)
	w.Num(1, 2)
	w.Raw([]byte("a"))
	w.Blob([]byte("b"))
	checkOut(t, w, []byte{1, 0, 'a', 1, 0, 'b'}, api.OK)
}

func TestWriterFirstErrorIsKept(t *testing.T) {
	w := codec.NewWriter(4)
	w.Num(7, 1)
	w.Raw([]byte("abcd"))
	checkOut(t, w, []byte{7}, api.ErrLong)
	for _, x := range []item{num(1, 1), num(1, 0), num(1, 9), num(1, -1), raw(nil), raw([]byte("a")), blob(nil), blob(pattern(65536))} {
		x.write(w)
		checkOut(t, w, []byte{7}, api.ErrLong)
	}

	w = codec.NewWriter(4)
	w.Num(7, 1)
	w.Num(8, -1)
	checkOut(t, w, []byte{7}, api.ErrArg)
	for _, x := range []item{num(1, 1), num(1, 9), raw([]byte("a")), raw([]byte("abcdef")), blob(nil), blob([]byte("abcdef")), blob(pattern(65536))} {
		x.write(w)
		checkOut(t, w, []byte{7}, api.ErrArg)
	}
}

func TestWriterOutCanBeAskedInBetween(t *testing.T) {
	w := codec.NewWriter(3)
	checkOut(t, w, nil, api.OK)
	w.Num(1, 1)
	checkOut(t, w, []byte{1}, api.OK)
	checkOut(t, w, []byte{1}, api.OK)
	w.Num(2, 2)
	checkOut(t, w, []byte{1, 2, 0}, api.OK)
}

func TestNilWriter(t *testing.T) {
	var w *codec.Writer
	w.Num(1, 1)
	w.Num(1, 9)
	w.Num(1, -1)
	w.Raw([]byte("a"))
	w.Raw(nil)
	w.Blob([]byte("a"))
	w.Blob(nil)
	w.Blob(pattern(65536))
	checkOut(t, w, nil, api.OK)
}

// P1.2

func TestReaderNum(t *testing.T) {
	for _, x := range []struct {
		b    []byte
		many int
		want uint64
	}{
		{[]byte{2, 1, 0}, 3, 258},
		{[]byte{2, 1, 0}, 2, 258},
		{[]byte{2, 1, 0}, 1, 2},
		{[]byte{2, 1, 0}, 0, 0},
		{nil, 0, 0},
		{[]byte{255}, 1, 255},
		{[]byte{8, 7, 6, 5, 4, 3, 2, 1}, 8, 0x0102030405060708},
		{[]byte{8, 7, 6, 5, 4, 3, 2, 1}, 7, 0x02030405060708},
		{[]byte{8, 7, 6, 5, 4, 3, 2, 1}, 5, 0x0405060708},
		{[]byte{255, 255, 255, 255, 255, 255, 255, 255, 1}, 8, math.MaxUint64},
		{[]byte{0, 0, 0, 0, 0, 0, 0, 128}, 8, 1 << 63},
	} {
		r := codec.NewReader(x.b)
		if got := r.Num(x.many); got != x.want {
			t.Errorf("Num(%d) of %x = %d, want %d", x.many, x.b, got, x.want)
		}
		end := api.OK
		if len(x.b) > x.many {
			end = api.ErrTail
		}
		checkEnd(t, r, len(x.b)-x.many, end)
	}
}

func TestReaderNumRefuses(t *testing.T) {
	for _, x := range []struct {
		size, many int
		err        api.Errno
	}{
		{20, -1, api.ErrArg}, {20, 9, api.ErrArg}, {20, math.MinInt, api.ErrArg}, {20, math.MaxInt, api.ErrArg},
		{0, -1, api.ErrArg}, {0, 9, api.ErrArg}, // what is wrong with many comes ahead of the bytes that are missing
		{0, 1, api.ErrShort}, {0, 8, api.ErrShort}, {1, 2, api.ErrShort}, {2, 3, api.ErrShort}, {7, 8, api.ErrShort},
	} {
		r := codec.NewReader(pattern(x.size))
		if got := r.Num(x.many); got != 0 {
			t.Errorf("Num(%d) of %d bytes = %d", x.many, x.size, got)
		}
		checkEnd(t, r, x.size, x.err)
	}
}

func TestReaderRaw(t *testing.T) {
	b := []byte("abcdef")
	r := codec.NewReader(b)
	for _, want := range []string{"", "a", "bcd", "", "ef", ""} {
		if got := r.Raw(len(want)); string(got) != want {
			t.Errorf("Raw(%d) = %q, want %q", len(want), got, want)
		}
	}
	checkEnd(t, r, 0, api.OK)

	long := pattern(70000)
	r = codec.NewReader(long)
	if !bytes.Equal(r.Raw(len(long)), long) {
		t.Error("Raw of many bytes")
	}
	checkEnd(t, r, 0, api.OK)
}

func TestReaderRawRefuses(t *testing.T) {
	for _, x := range []struct {
		size, n int
		err     api.Errno
	}{
		{3, -1, api.ErrArg}, {3, math.MinInt, api.ErrArg}, {0, -1, api.ErrArg},
		{3, 4, api.ErrShort}, {0, 1, api.ErrShort}, {3, math.MaxInt, api.ErrShort},
	} {
		r := codec.NewReader(pattern(x.size))
		if got := r.Raw(x.n); len(got) != 0 {
			t.Errorf("Raw(%d) of %d bytes = %x", x.n, x.size, got)
		}
		checkEnd(t, r, x.size, x.err)
	}
}

func TestReaderBlob(t *testing.T) {
	for _, x := range []struct {
		b    string
		most int
		want string
		left int
	}{
		{"\x02\x00ab", 2, "ab", 0},
		{"\x02\x00ab", 3, "ab", 0},
		{"\x02\x00ab", math.MaxInt, "ab", 0},
		{"\x02\x00abc", 2, "ab", 1},
		{"\x00\x00", 0, "", 0},
		{"\x00\x00", 5, "", 0},
		{"\x00\x00", -1, "", 0},
		{"\x00\x00", math.MinInt, "", 0},
		{"\x00\x00a", -1, "", 1},
	} {
		r := codec.NewReader([]byte(x.b))
		if got := r.Blob(x.most); string(got) != x.want {
			t.Errorf("Blob(%d) of %q = %q, want %q", x.most, x.b, got, x.want)
		}
		end := api.OK
		if x.left > 0 {
			end = api.ErrTail
		}
		checkEnd(t, r, x.left, end)
	}
}

func TestReaderLongestBlob(t *testing.T) {
	b := pattern(65535)
	whole := append([]byte{255, 255}, b...)
	for _, most := range []int{65535, 65536, math.MaxInt} {
		r := codec.NewReader(whole)
		if !bytes.Equal(r.Blob(most), b) {
			t.Errorf("Blob(%d)", most)
		}
		checkEnd(t, r, 0, api.OK)
	}
	r := codec.NewReader(whole)
	if len(r.Blob(65534)) != 0 {
		t.Error("Blob(65534)")
	}
	checkEnd(t, r, len(whole), api.ErrLong)
}

func TestReaderBlobRefuses(t *testing.T) {
	for _, x := range []struct {
		b    string
		most int
		err  api.Errno
	}{
		{"", 9, api.ErrShort},
		{"", -1, api.ErrShort},
		{"\x00", 9, api.ErrShort},
		{"\x09", 2, api.ErrShort},
		{"\x03\x00abc", 2, api.ErrLong},
		{"\x03\x00", 2, api.ErrLong}, // a length too great comes ahead of the bytes that are missing
		{"\x03\x00ab", 2, api.ErrLong},
		{"\x01\x00a", 0, api.ErrLong},
		{"\x01\x00a", -1, api.ErrLong},
		{"\x01\x00a", math.MinInt, api.ErrLong},
		{"\xff\xff", 65534, api.ErrLong},
		{"\x00\x01", 255, api.ErrLong},
		{"\x03\x00ab", 3, api.ErrShort},
		{"\x03\x00ab", 9, api.ErrShort},
		{"\x01\x00", 1, api.ErrShort},
		{"\xff\xffab", 65535, api.ErrShort},
	} {
		r := codec.NewReader([]byte(x.b))
		if got := r.Blob(x.most); len(got) != 0 {
			t.Errorf("Blob(%d) of %q = %q", x.most, x.b, got)
		}
		checkEnd(t, r, len(x.b), x.err)
	}
}

// failedReaders returns readers behind their first errors, two of five bytes behind.
func failedReaders() map[api.Errno]*codec.Reader {
	l := map[api.Errno]*codec.Reader{}
	for err, fail := range map[api.Errno]func(r *codec.Reader){
		api.ErrArg:   func(r *codec.Reader) { r.Num(9) },
		api.ErrShort: func(r *codec.Reader) { r.Raw(4) },
		api.ErrLong:  func(r *codec.Reader) { r.Blob(0) },
	} {
		r := codec.NewReader([]byte{8, 9, 1, 0, 5})
		r.Num(2)
		fail(r)
		l[err] = r
	}
	return l
}

func TestReaderFirstErrorIsKept(t *testing.T) {
	for err, r := range failedReaders() {
		checkEnd(t, r, 3, err)
		for _, many := range []int{1, 0, 3, 4, 9, -1} {
			if got := r.Num(many); got != 0 {
				t.Errorf("Num(%d) behind error %d = %d", many, err, got)
			}
			checkEnd(t, r, 3, err)
		}
		for _, n := range []int{1, 0, 3, 4, -1} {
			if got := r.Raw(n); len(got) != 0 {
				t.Errorf("Raw(%d) behind error %d = %x", n, err, got)
			}
			checkEnd(t, r, 3, err)
		}
		for _, most := range []int{1, 0, 9, -1} {
			if got := r.Blob(most); len(got) != 0 {
				t.Errorf("Blob(%d) behind error %d = %x", most, err, got)
			}
			checkEnd(t, r, 3, err)
		}
	}
}

func TestReaderErrorAtTheEndOfTheBytes(t *testing.T) {
	r := codec.NewReader([]byte{1})
	r.Num(1)
	r.Num(1)
	checkEnd(t, r, 0, api.ErrShort)
	r.Num(0)
	r.Raw(0)
	checkEnd(t, r, 0, api.ErrShort)
}

// P1.3

func TestLeftAndEnd(t *testing.T) {
	r := codec.NewReader([]byte{1, 2, 0, 7, 7, 3})
	checkEnd(t, r, 6, api.ErrTail)
	r.Num(1)
	checkEnd(t, r, 5, api.ErrTail)
	r.Blob(2)
	checkEnd(t, r, 1, api.ErrTail)
	if r.Raw(1)[0] != 3 {
		t.Error("ErrTail from End kept the reader from reading on")
	}
	checkEnd(t, r, 0, api.OK)
	checkEnd(t, r, 0, api.OK)
}

func TestReaderOfNoBytes(t *testing.T) {
	for _, b := range [][]byte{nil, {}} {
		r := codec.NewReader(b)
		checkEnd(t, r, 0, api.OK)
		if r.Num(0) != 0 || len(r.Raw(0)) != 0 {
			t.Error("something was read")
		}
		checkEnd(t, r, 0, api.OK)
	}
}

func TestNilReader(t *testing.T) {
	var r *codec.Reader
	for _, n := range []int{0, 1, 8, 9, -1} {
		if r.Num(n) != 0 || len(r.Raw(n)) != 0 || len(r.Blob(n)) != 0 {
			t.Errorf("a nil reader read something for %d", n)
		}
		checkEnd(t, r, 0, api.OK)
	}
}

// P1.4

// mixed returns many items of all kinds, the same ones each time.
func mixed(count int) []item {
	var l []item
	state := uint64(1)
	for len(l) < count {
		state = state*6364136223846793005 + 1442695040888963407
		size := int(state >> 58)
		switch state >> 32 % 3 {
		case 0:
			l = append(l, num(state*state, size%9))
		case 1:
			l = append(l, raw(pattern(size)))
		default:
			l = append(l, blob(pattern(size*size)))
		}
	}
	return l
}

func TestWrittenIsReadAgain(t *testing.T) {
	for _, items := range [][]item{
		nil,
		{num(258, 3), blob([]byte("ab")), raw([]byte("cd")), num(math.MaxUint64, 8), num(5, 0), blob(nil), raw(nil)},
		{blob(pattern(65535)), num(1, 1)},
		mixed(300),
	} {
		w := codec.NewWriter(1 << 20)
		var want []byte
		for _, x := range items {
			x.write(w)
			want = append(want, x.bytes()...)
		}
		checkOut(t, w, want, api.OK)

		out, _ := w.Out()
		r := codec.NewReader(out)
		left := len(out)
		for _, x := range items {
			x.checkRead(t, r)
			left -= len(x.bytes())
			if r.Left() != left {
				t.Fatalf("Left() = %d, want %d", r.Left(), left)
			}
		}
		checkEnd(t, r, 0, api.OK)
	}
}

func TestNumbersOfAllSizesAreReadAgain(t *testing.T) {
	for many := range 9 {
		for bit := range 64 {
			for _, n := range []uint64{1 << bit, 1<<bit - 1, ^uint64(1 << bit)} {
				x := num(n, many)
				w := codec.NewWriter(8)
				x.write(w)
				out, _ := w.Out()
				r := codec.NewReader(out)
				x.checkRead(t, r)
				checkEnd(t, r, 0, api.OK)
			}
		}
	}
}

// P1.5

func TestNeverMoreThanTheRoom(t *testing.T) {
	items := []item{num(258, 3), raw([]byte("abc")), blob([]byte("de")), num(7, 0), blob(nil), raw(nil), num(math.MaxUint64, 8), blob(pattern(20)), num(1, 1)}
	var whole []byte
	for _, x := range items {
		whole = append(whole, x.bytes()...)
	}
	for room := -1; room <= len(whole)+1; room++ {
		w := codec.NewWriter(room)
		var want []byte
		err := api.OK
		for _, x := range items {
			x.write(w)
			if err == api.OK && len(want)+len(x.bytes()) > max(room, 0) {
				err = api.ErrLong
			}
			if err == api.OK {
				want = append(want, x.bytes()...)
			}
			checkOut(t, w, want, err)
		}
		if out, _ := w.Out(); len(out) > max(room, 0) {
			t.Errorf("%d bytes in a room for %d", len(out), room)
		}
	}
}

// Rules 4 and 5 of the document

// guarded returns the bytes as a part of a greater array, and that array.
func guarded(s string) (part, array []byte) {
	array = []byte("<<<" + s + ">>>")
	return array[3 : 3+len(s) : len(array)], array
}

func TestWriterNeitherChangesNorKeepsArguments(t *testing.T) {
	for _, write := range []struct {
		item func(w *codec.Writer, b []byte)
		head string
	}{{(*codec.Writer).Raw, ""}, {(*codec.Writer).Blob, "\x04\x00"}} {
		for _, room := range []int{100, 3} {
			w := codec.NewWriter(room)
			b, array := guarded("abcd")
			write.item(w, b)
			w.Num(math.MaxUint64, 8)
			if string(array) != "<<<abcd>>>" {
				t.Errorf("the argument became %q", array)
			}
			for i := range array {
				array[i] = 'x'
			}
			if room == 100 {
				checkOut(t, w, []byte(write.head+"abcd\xff\xff\xff\xff\xff\xff\xff\xff"), api.OK)
			} else {
				checkOut(t, w, nil, api.ErrLong)
			}
		}
	}
}

func TestOutIsTheCallersOwn(t *testing.T) {
	w := codec.NewWriter(100)
	w.Raw([]byte("abcd"))
	first, _ := w.Out()
	second, _ := w.Out()
	first[0] = 'x'
	_ = append(first, "yyyy"...)
	if string(second) != "abcd" {
		t.Errorf("another result became %q", second)
	}
	w.Raw([]byte("efgh"))
	_ = append(second, "zzzz"...)
	checkOut(t, w, []byte("abcdefgh"), api.OK)
	if string(first) != "xbcd" || string(second) != "abcd" {
		t.Errorf("the results became %q, %q", first, second)
	}
}

func TestOutIsTheCallersOwnBehindAnError(t *testing.T) {
	w := codec.NewWriter(4)
	w.Raw([]byte("abcd"))
	w.Num(1, 1)
	first, _ := w.Out()
	first[0] = 'x'
	checkOut(t, w, []byte("abcd"), api.ErrLong)
}

func TestReaderNeitherChangesNorKeepsArguments(t *testing.T) {
	b, array := guarded("ab\x02\x00cdef")
	r := codec.NewReader(b)
	if r.Left() != 8 {
		t.Errorf("%d bytes left, some of them beyond the length", r.Left())
	}
	for i := range array {
		array[i] = 'x'
	}
	if got := r.Raw(2); string(got) != "ab" {
		t.Errorf("Raw(2) = %q", got)
	}
	if got := r.Blob(2); string(got) != "cd" {
		t.Errorf("Blob(2) = %q", got)
	}
	if got := r.Num(2); got != 'e'+256*'f' {
		t.Errorf("Num(2) = %d", got)
	}
	checkEnd(t, r, 0, api.OK)
	if string(array) != "xxxxxxxxxxxxxx" {
		t.Errorf("the argument became %q", array)
	}
}

func TestReadBytesAreTheCallersOwn(t *testing.T) {
	array := []byte("ab\x02\x00cdefgh")
	r := codec.NewReader(array)
	first := r.Raw(2)
	second := r.Blob(2)
	for _, b := range [][]byte{first, second} {
		for i := range b {
			b[i] = 'x'
		}
		_ = append(b, "yyyyyyyy"...)
	}
	if string(array) != "ab\x02\x00cdefgh" {
		t.Errorf("the argument became %q", array)
	}
	if string(first) != "xx" || string(second) != "xx" {
		t.Errorf("the results became %q, %q", first, second)
	}
	if got := r.Raw(4); string(got) != "efgh" {
		t.Errorf("Raw(4) = %q", got)
	}
}

func TestReadersAndWritersAreIndependent(t *testing.T) {
	b := []byte{1, 2, 3}
	r, s := codec.NewReader(b), codec.NewReader(b)
	r.Num(9)
	checkEnd(t, r, 3, api.ErrArg)
	if s.Num(3) != 0x030201 {
		t.Error("a reader's error reached another one")
	}
	checkEnd(t, s, 0, api.OK)

	v, w := codec.NewWriter(3), codec.NewWriter(3)
	v.Num(1, 9)
	w.Num(7, 3)
	checkOut(t, v, nil, api.ErrArg)
	checkOut(t, w, []byte{7, 0, 0}, api.OK)
}
