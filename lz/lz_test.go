package lz_test

import (
	"bytes"
	"math"
	"slices"
	"testing"

	"pumice/api"
	"pumice/lz"
)

// What the document names: how far back a match may lie, how many bytes it has at least and at most, and how many literals are written together.
const (
	window      = 256
	minMatch    = 3
	maxMatch    = 130
	maxLiterals = 128
)

// unlike returns n bytes in which no three bytes come again.
func unlike(n int) []byte {
	b := make([]byte, n)
	seen := map[[3]byte]bool{}
	for i := range b {
		b[i] = byte(i * 3)
		for i >= 2 && seen[[3]byte(b[i-2:])] {
			b[i]++
		}
		if i >= 2 {
			seen[[3]byte(b[i-2:])] = true
		}
	}
	return b
}

// scattered returns n bytes of so many different ones, in no order to speak of.
func scattered(n, letters int) []byte {
	b := make([]byte, n)
	x := uint32(n + letters)
	for i := range b {
		x = x*1664525 + 1013904223
		b[i] = byte(x>>16) % byte(letters)
	}
	return b
}

// words returns all byte strings of up to most bytes that consist of the letters.
func words(letters string, most int) [][]byte {
	l := [][]byte{nil}
	for from := 0; len(l[from]) < most; from++ {
		for _, c := range []byte(letters) {
			l = append(l, append(bytes.Clone(l[from]), c))
		}
	}
	return l
}

// again returns bytes of which the n first ones come again at a distance, and nothing behind these.
func again(distance, n int) []byte {
	b := unlike(distance)
	for i := range n {
		b = append(b, b[i])
	}
	return b
}

// samples returns byte strings of all kinds: short and long ones, of one byte and of many, with matches and without.
func samples() [][]byte {
	l := [][]byte{nil, {}, []byte("abcabcab"), []byte("aaaaa"), []byte("the cat sat on the mat, the cat that sat on the mat")}
	for n := range 12 {
		l = append(l, unlike(n), bytes.Repeat([]byte{0}, n), bytes.Repeat([]byte{255}, n))
	}
	for _, n := range []int{127, 128, 129, 130, 131, 132, 133, 134, 255, 256, 257, 258, 390, 700} {
		l = append(l, bytes.Repeat([]byte{7}, n), unlike(n), again(n, n), again(n, 3), again(n, 20))
	}
	for _, period := range []int{2, 3, 4, 50, 127, 128, 129, 130, 131, 255, 256, 257} {
		l = append(l, bytes.Repeat(unlike(period), 700/period+1)[:700])
	}
	for _, letters := range []int{2, 3, 4, 8, 255} {
		l = append(l, scattered(256, letters), scattered(900, letters))
	}
	return l
}

// join returns the parts, one after the other.
func join(parts ...[]byte) []byte {
	return bytes.Join(parts, nil)
}

// form returns what packed bytes begin with: 0 or 1.
func form(n byte) []byte {
	return []byte{n}
}

// lits returns one item of literals.
func lits(b []byte) []byte {
	return append([]byte{byte(len(b) - 1)}, b...)
}

// ref returns a match, as an item.
func ref(distance, n int) []byte {
	return []byte{byte(128 + n - 3), byte(distance - 1)}
}

// longest returns the longest match at a position, from the greatest distance to the least.
func longest(b []byte, at int) (distance, length int) {
	for k := max(at-window, 0); k < at; k++ {
		n := 0
		for n < maxMatch && at+n < len(b) && b[k+n] == b[at+n] {
			n++
		}
		if n >= minMatch && n >= length {
			distance, length = at-k, n
		}
	}
	return distance, length
}

// pack returns what Pack is to return.
func pack(b []byte) []byte {
	var e, waiting []byte
	for i := 0; i < len(b); {
		d, n := longest(b, i)
		if _, next := longest(b, i+1); n == 0 || next > n {
			waiting = append(waiting, b[i])
			i++
		} else {
			e = join(e, allLits(waiting), ref(d, n))
			waiting = nil
			i += n
		}
	}
	e = join(e, allLits(waiting))
	if len(e) < len(b) {
		return join(form(1), e)
	}
	return join(form(0), b)
}

// allLits returns the items of literals in a row.
func allLits(b []byte) []byte {
	if len(b) > maxLiterals {
		return join(lits(b[:maxLiterals]), allLits(b[maxLiterals:]))
	}
	if len(b) > 0 {
		return lits(b)
	}
	return nil
}

// unpack returns what Unpack is to return.
func unpack(p []byte, most int) ([]byte, api.Errno) {
	if len(p) == 0 || p[0] != 0 && p[0] != 1 {
		return nil, api.ErrLz
	}
	if p[0] == 0 {
		if len(p) > 1 && len(p)-1 > most {
			return nil, api.ErrLong
		}
		return p[1:], api.OK
	}
	var b []byte
	for p = p[1:]; len(p) > 0; {
		n := int(p[0]) + 1
		size := n + 1
		if n > 128 {
			n, size = n-126, 2
		}
		if len(p) < size || p[0] > 127 && int(p[1])+1 > len(b) {
			return nil, api.ErrLz
		}
		if len(b)+n > most {
			return nil, api.ErrLong
		}
		for i := range n {
			if p[0] < 128 {
				b = append(b, p[1+i])
			} else {
				b = append(b, b[len(b)-1-int(p[1])])
			}
		}
		p = p[size:]
	}
	return b, api.OK
}

// front returns as many bytes as can be shown.
func front(b []byte) []byte {
	return b[:min(len(b), 40)]
}

func checkPack(t *testing.T, b, want []byte) {
	t.Helper()
	if got := lz.Pack(b); !bytes.Equal(got, want) {
		t.Errorf("Pack(%d bytes %.40q) = %v, want %v", len(b), b, front(got), front(want))
	}
}

func checkUnpack(t *testing.T, p []byte, most int, want []byte, err api.Errno) {
	t.Helper()
	got, e := lz.Unpack(p, most)
	if !bytes.Equal(got, want) || e != err {
		t.Errorf("Unpack(%d bytes %v, %d) = %.40q, %d, want %.40q, %d", len(p), front(p), most, got, e, want, err)
	}
}

// checkThereAndBack checks that bytes become what is expected, and these the bytes again.
func checkThereAndBack(t *testing.T, b, p []byte) {
	t.Helper()
	checkPack(t, b, p)
	checkUnpack(t, p, len(b), b, api.OK)
	checkUnpack(t, p, math.MaxInt, b, api.OK)
	if len(b) > 0 {
		checkUnpack(t, p, len(b)-1, nil, api.ErrLong)
	}
}

// P6.1

func TestPackOfTheExamples(t *testing.T) {
	checkPack(t, nil, []byte{0})
	checkPack(t, []byte("aaaaaaaa"), []byte{1, 0, 97, 132, 0})
}

func TestPackOfSomeBytes(t *testing.T) {
	for _, x := range []struct {
		b    string
		want []byte
	}{
		{"", []byte{0}},
		{"a", []byte{0, 97}},
		{"\x00", []byte{0, 0}},
		{"\x01", []byte{0, 1}},
		{"abcd", []byte{0, 97, 98, 99, 100}},
		{"abcabcabcabc", []byte{1, 2, 97, 98, 99, 134, 2}},
		{"\x00\x00\x00\x00\x00\x00", []byte{1, 0, 0, 130, 0}},
		{"\xff\xff\xff\xff\xff\xff", []byte{1, 0, 255, 130, 0}},
		// Literals ahead of matches, between them and behind them.
		{"xyabababab", []byte{1, 3, 120, 121, 97, 98, 131, 1}},
		{"aaaaaaaaxyaaaaaaa", []byte{1, 0, 97, 132, 0, 1, 120, 121, 132, 8}},
		{"ababababxy", []byte{1, 1, 97, 98, 131, 1, 1, 120, 121}},
		// Matches one behind the other.
		{"aaaaaabaaaaabaaaa", []byte{1, 0, 97, 130, 0, 0, 98, 135, 5}},
		{"abcdefghXefghabcd", []byte{1, 8, 97, 98, 99, 100, 101, 102, 103, 104, 88, 129, 4, 129, 12}},
		// What is equal at a distance goes on only to the end.
		{"abcdefabcdef", []byte{1, 5, 97, 98, 99, 100, 101, 102, 131, 5}},
	} {
		checkThereAndBack(t, []byte(x.b), x.want)
	}
}

func TestPackOfNoBytes(t *testing.T) {
	for _, b := range [][]byte{nil, {}, []byte("aaaaaaaaaa")[:0]} {
		checkThereAndBack(t, b, []byte{0})
	}
}

func TestPackOfBytesThatDoNotBecomeShorter(t *testing.T) {
	// An encoding as long as the bytes is not shorter.
	for _, b := range []string{"aaa", "aaaa", "abcabc", "abcdabc", "aabaab"} {
		checkThereAndBack(t, []byte(b), join(form(0), []byte(b)))
	}
	// One that is a byte shorter is, though what is packed is then as long as the bytes.
	checkThereAndBack(t, []byte("aaaaa"), []byte{1, 0, 97, 129, 0})
	checkThereAndBack(t, []byte("abcabca"), []byte{1, 2, 97, 98, 99, 129, 2})
	checkThereAndBack(t, []byte("abababa"), []byte{1, 1, 97, 98, 130, 1})
	for _, n := range []int{1, 2, 3, 127, 128, 129, 256, 257, 1000, 70000} {
		checkThereAndBack(t, unlike(n), join(form(0), unlike(n)))
	}
	// The match saves a byte, which the heads of 129 literals take.
	checkThereAndBack(t, again(128, 3), join(form(0), again(128, 3)))
	checkThereAndBack(t, again(128, 4), join(form(1), lits(unlike(128)), ref(128, 4)))
	checkThereAndBack(t, again(129, 4), join(form(0), again(129, 4)))
}

func TestPackOfLiteralsInARow(t *testing.T) {
	end := func(b []byte) []byte { return join(b, b[len(b)-20:]) }
	for _, x := range []struct {
		literals int
		items    []int
	}{
		{20, []int{20}}, {126, []int{126}}, {127, []int{127}}, {128, []int{128}},
		{129, []int{128, 1}}, {130, []int{128, 2}}, {255, []int{128, 127}}, {256, []int{128, 128}},
		{257, []int{128, 128, 1}}, {384, []int{128, 128, 128}}, {385, []int{128, 128, 128, 1}},
	} {
		b, want := unlike(x.literals), form(1)
		for i, at := 0, 0; i < len(x.items); i++ {
			want = join(want, []byte{byte(x.items[i] - 1)}, b[at:at+x.items[i]])
			at += x.items[i]
		}
		checkThereAndBack(t, end(b), join(want, []byte{145, 19}))
	}
}

func TestPackOfLiteralsBehindAMatch(t *testing.T) {
	for _, n := range []int{1, 2, 127, 128, 129, 256, 257, 258} {
		tail := bytes.ReplaceAll(unlike(n), []byte{'a'}, []byte{'b'})
		b := join(bytes.Repeat([]byte{'a'}, 131), tail)
		checkThereAndBack(t, b, join(form(1), lits([]byte{'a'}), ref(1, 130), allLits(tail)))
	}
}

func TestPackOfEqualBytes(t *testing.T) {
	for _, x := range []struct {
		n    int
		want []byte
	}{
		{6, []byte{1, 0, 97, 130, 0}},
		{130, []byte{1, 0, 97, 254, 0}},
		{131, []byte{1, 0, 97, 255, 0}},
		// What is left of them is too short for a match.
		{132, []byte{1, 0, 97, 255, 0, 0, 97}},
		{133, []byte{1, 0, 97, 255, 0, 1, 97, 97}},
		{134, []byte{1, 0, 97, 255, 0, 128, 0}},
		{261, []byte{1, 0, 97, 255, 0, 255, 0}},
		{264, []byte{1, 0, 97, 255, 0, 255, 0, 128, 0}},
	} {
		checkThereAndBack(t, bytes.Repeat([]byte{'a'}, x.n), x.want)
	}
}

func TestPackOfMatchesAtEachDistance(t *testing.T) {
	for _, n := range []int{4, 5, 20, 128, 129, 130} {
		for distance := n; distance <= 260; distance++ {
			b := again(distance, n)
			want := join(form(1), allLits(unlike(distance)), []byte{byte(n + 125), byte(distance - 1)})
			if distance > window || len(want)-1 >= len(b) {
				want = join(form(0), b)
			}
			checkThereAndBack(t, b, want)
		}
	}
}

func TestPackOfTheFarthestMatches(t *testing.T) {
	// The equal bytes ahead make it all shorter; the three first ones behind them come again.
	equal := bytes.Repeat([]byte{'a'}, 131)
	tail := bytes.ReplaceAll(unlike(256), []byte{'a'}, []byte{'b'})
	for _, n := range []int{3, 4, 129, 130} {
		b := join(equal, tail, tail[:n])
		checkThereAndBack(t, b, join([]byte{1, 0, 'a', 255, 0}, allLits(tail), []byte{byte(n + 125), 255}))
	}
	// A byte farther, there is no match.
	far := join(tail, []byte{'c'}, tail[:3])
	checkThereAndBack(t, join(equal, far), join([]byte{1, 0, 'a', 255, 0}, allLits(far)))
}

func TestPackOfTheNearestMatches(t *testing.T) {
	checkThereAndBack(t, []byte("abcabcabcabcdabcdef"), join(form(1), lits([]byte("abc")), ref(3, 9), lits([]byte("d")), ref(4, 4), lits([]byte("ef"))))
	for n := 5; n <= 131; n++ {
		checkThereAndBack(t, bytes.Repeat([]byte{9}, n), []byte{1, 0, 9, byte(n - 1 + 125), 0})
	}
	for n := 5; n <= 130; n++ {
		b := append(bytes.Repeat([]byte("xy"), 70)[:n+2], 'z')
		checkThereAndBack(t, b, []byte{1, 1, 'x', 'y', byte(n + 125), 1, 0, 'z'})
	}
}

func TestPackOfMatchesThatGiveWay(t *testing.T) {
	for _, x := range []struct {
		b    string
		want []byte
	}{
		// Three bytes, and five a byte behind.
		{"abcXbcdefYabcdef", join(form(1), lits([]byte("abcXbcdefYa")), ref(7, 5))},
		// One byte more is enough.
		{"abcdXbcdefYabcdef", join(form(1), lits([]byte("abcdX")), ref(4, 3), lits([]byte("efYa")), ref(7, 5))},
		// As many bytes are not.
		{"abcdefXbcdefgYabcdefg", join(form(1), lits([]byte("abcdefX")), ref(6, 5), lits([]byte("gY")), ref(14, 6), lits([]byte("g")))},
		// Nor are more bytes two bytes behind.
		{"abcdXcdefghiYabcdefghi", join(form(1), lits([]byte("abcdXcdefghiY")), ref(13, 4), ref(10, 5))},
		// It gives way, and so does the longer one.
		{"abcXbcdeYcdefgZabcdefg", join(form(1), lits([]byte("abcXbcdeY")), ref(4, 3), lits([]byte("fgZab")), ref(8, 5))},
		// It gives way, and the longer one does not.
		{"abcXbcdeYcdefZabcdefffffff", join(form(1), lits([]byte("abcXbcdeY")), ref(4, 3), lits([]byte("fZa")), ref(11, 4), lits([]byte("f")), ref(1, 6))},
		// The literal that it leaves is written with those ahead of it.
		{"aaaaaabcXbcdefYabcdef", join(form(1), lits([]byte("a")), ref(1, 5), lits([]byte("bcXbcdefYa")), ref(7, 5))},
	} {
		checkThereAndBack(t, []byte(x.b), x.want)
	}
}

func TestPackOfAMatchThatGivesWayToALongOne(t *testing.T) {
	far := unlike(140)
	for _, n := range []int{4, 5, 100, 129, 130, 131} {
		// The last n bytes came before, the three from the byte ahead of them on came at another place.
		b := join([]byte{far[139]}, far[:2], []byte{1}, far[:n], []byte{2, far[139]}, far[:n])
		length := min(n, maxMatch)
		want := join(form(1), allLits(b[:len(b)-n]), ref(n+2, length), allLits(far[length:n]))
		if len(want)-1 >= len(b) {
			want = join(form(0), b)
		}
		checkThereAndBack(t, b, want)
	}
}

func TestPackOfAllShortBytes(t *testing.T) {
	for _, b := range append(words("ab", 12), words("abc", 8)...) {
		checkThereAndBack(t, b, pack(b))
	}
}

func TestPackOfManyBytes(t *testing.T) {
	for _, b := range samples() {
		checkThereAndBack(t, b, pack(b))
	}
	for n := range 400 {
		for _, letters := range []int{1, 2, 3, 5} {
			b := scattered(n, letters)
			checkThereAndBack(t, b, pack(b))
		}
	}
}

// P6.2

func TestUnpackOfTheExamples(t *testing.T) {
	checkUnpack(t, []byte{1, 0, 97, 132, 0}, 8, []byte("aaaaaaaa"), api.OK)
	checkUnpack(t, []byte{1, 0, 97, 132, 0}, 7, nil, api.ErrLong)
	checkUnpack(t, []byte{1, 128, 0}, 8, nil, api.ErrLz)
	checkUnpack(t, []byte{1, 128, 0}, 0, nil, api.ErrLz)
}

func TestUnpackOfNoBytes(t *testing.T) {
	for _, p := range [][]byte{nil, {}, []byte{0, 1, 2}[:0]} {
		for _, most := range mosts() {
			checkUnpack(t, p, most, nil, api.ErrLz)
		}
	}
}

func TestUnpackOfOtherFirstBytes(t *testing.T) {
	for first := 2; first < 256; first++ {
		for _, most := range mosts() {
			checkUnpack(t, []byte{byte(first)}, most, nil, api.ErrLz)
			checkUnpack(t, []byte{byte(first), 0, 97}, most, nil, api.ErrLz)
			checkUnpack(t, []byte{byte(first), 128, 0, 97, 98}, most, nil, api.ErrLz)
		}
	}
}

// mosts returns numbers of bytes that may be wanted, and some that can't be.
func mosts() []int {
	return []int{math.MinInt, math.MinInt + 1, -256, -2, -1, 0, 1, 2, 3, 4, 5, 7, 8, 9, 128, 129, 255, 256, 257, math.MaxInt32, math.MaxInt - 1, math.MaxInt}
}

func TestUnpackOfBytesAsTheyAre(t *testing.T) {
	for _, b := range [][]byte{nil, {0}, {1}, {128}, []byte("ab"), {0, 97, 128, 0}, {255, 255}, unlike(256), make([]byte, 300)} {
		for _, most := range append(mosts(), len(b)-1, len(b), len(b)+1) {
			if len(b) > max(most, 0) {
				checkUnpack(t, join(form(0), b), most, nil, api.ErrLong)
			} else {
				checkUnpack(t, join(form(0), b), most, b, api.OK)
			}
		}
	}
}

func TestUnpackOfAnEmptyEncoding(t *testing.T) {
	for _, most := range mosts() {
		checkUnpack(t, []byte{1}, most, nil, api.OK)
	}
}

func TestUnpackOfTruncatedLiterals(t *testing.T) {
	for n := 1; n <= maxLiterals; n++ {
		item := lits(unlike(n))
		for size := 1; size <= n; size++ {
			p := join(form(1), item[:size])
			for _, most := range []int{-1, 0, n - 1, n, n + 1, math.MaxInt} {
				checkUnpack(t, p, most, nil, api.ErrLz)
			}
			checkUnpack(t, join(form(1), lits([]byte("xyz")), ref(3, 4), item[:size]), 7, nil, api.ErrLz)
		}
		checkUnpack(t, join(form(1), item), n, unlike(n), api.OK)
	}
}

func TestUnpackOfTruncatedMatches(t *testing.T) {
	for head := 128; head < 256; head++ {
		for _, most := range mosts() {
			checkUnpack(t, []byte{1, byte(head)}, most, nil, api.ErrLz)
		}
		for _, most := range []int{3, 4, 5, 6, head - 125 + 2, head - 125 + 3, math.MaxInt} {
			checkUnpack(t, []byte{1, 2, 97, 98, 99, byte(head)}, most, nil, api.ErrLz)
		}
	}
}

func TestUnpackOfADistanceThatIsTooGreat(t *testing.T) {
	for _, n := range []int{3, 4, 50, 129, 130} {
		for decoded := range 257 {
			b := unlike(decoded)
			for distance := max(decoded-2, 1); distance <= min(decoded+2, 256); distance++ {
				p := join(form(1), allLits(b), ref(distance, n))
				if distance > decoded {
					checkUnpack(t, p, decoded+n, nil, api.ErrLz)
					checkUnpack(t, p, decoded, nil, api.ErrLz)
					checkUnpack(t, p, math.MaxInt, nil, api.ErrLz)
					continue
				}
				want := bytes.Clone(b)
				for range n {
					want = append(want, want[len(want)-distance])
				}
				checkUnpack(t, p, decoded+n, want, api.OK)
				checkUnpack(t, p, decoded+n-1, nil, api.ErrLong)
			}
		}
	}
	// What matches stand for counts as decoded, too.
	checkUnpack(t, join(form(1), lits([]byte("ab")), ref(2, 3), ref(5, 4)), 9, []byte("ababaabab"), api.OK)
	checkUnpack(t, join(form(1), lits([]byte("ab")), ref(2, 3), ref(6, 4)), 9, nil, api.ErrLz)
}

func TestUnpackOfEachMatch(t *testing.T) {
	b := unlike(256)
	for n := minMatch; n <= maxMatch; n++ {
		for distance := 1; distance <= window; distance++ {
			p := join(form(1), lits(b[:128]), lits(b[128:]), []byte{byte(n + 125), byte(distance - 1)})
			want := bytes.Clone(b)
			for range n {
				want = append(want, want[len(want)-distance])
			}
			checkUnpack(t, p, 256+n, want, api.OK)
		}
	}
}

func TestUnpackOfMatchesThatOverlapWhatTheyMatch(t *testing.T) {
	for _, x := range []struct {
		e    []byte
		want string
	}{
		{join(lits([]byte("ab")), ref(2, 3)), "ababa"},
		{join(lits([]byte("abc")), ref(3, 10)), "abcabcabcabca"},
		{join(lits([]byte("xabc")), ref(3, 4), lits([]byte("z"))), "xabcabcaz"},
		{join(lits([]byte("abcde")), ref(5, 6), ref(11, 12)), "abcdeabcdeaabcdeabcdeaa"},
		{join(lits([]byte("\x00")), ref(1, 5)), "\x00\x00\x00\x00\x00\x00"},
	} {
		checkUnpack(t, join(form(1), x.e), len(x.want), []byte(x.want), api.OK)
		checkUnpack(t, join(form(1), x.e), len(x.want)-1, nil, api.ErrLong)
	}
}

func TestUnpackOfAtMostSoManyBytes(t *testing.T) {
	p := join(form(1), lits([]byte("abc")), ref(2, 5), lits([]byte("xy")), ref(10, 130))
	b, _ := unpack(p, math.MaxInt)
	if len(b) != 140 {
		t.Fatalf("the sample has %d bytes", len(b))
	}
	for most := -3; most < 140; most++ {
		checkUnpack(t, p, most, nil, api.ErrLong)
	}
	for _, most := range mosts() {
		if most < 140 {
			checkUnpack(t, p, most, nil, api.ErrLong)
		} else {
			checkUnpack(t, p, most, b, api.OK)
		}
	}
	checkUnpack(t, p, 140, b, api.OK)
	checkUnpack(t, p, 141, b, api.OK)
}

func TestUnpackTellsTheFirstError(t *testing.T) {
	abc := lits([]byte("abc"))
	for _, x := range []struct {
		p    []byte
		most int
		err  api.Errno
	}{
		// The same item is both wrong and too long.
		{lits(unlike(9))[:9], 0, api.ErrLz},
		{join(abc, lits([]byte("de"))[:2]), 3, api.ErrLz},
		{join(abc, ref(4, 3)), 3, api.ErrLz},
		{join(abc, ref(256, 130)), 3, api.ErrLz},
		{join(abc, ref(3, 3)[:1]), 3, api.ErrLz},
		{ref(1, 3), -1, api.ErrLz},
		// An item that is too long comes ahead of one that is wrong.
		{join(abc, ref(4, 3)), 2, api.ErrLong},
		{join(abc, lits([]byte("de"))[:2]), 2, api.ErrLong},
		{join(abc, ref(3, 3)[:1]), 0, api.ErrLong},
		{join(abc, ref(3, 3), ref(7, 3)), 5, api.ErrLong},
		{join(abc, ref(3, 3), []byte{128}), -5, api.ErrLong},
		// An item that is wrong comes ahead of one that is too long.
		{join(abc, ref(4, 3), lits(unlike(100))), 6, api.ErrLz},
		{join(abc, ref(3, 3), ref(7, 3), lits(unlike(100))), 6, api.ErrLz},
		{join(abc, ref(3, 3), ref(7, 3), lits(unlike(100))), 5, api.ErrLong},
	} {
		checkUnpack(t, join(form(1), x.p), x.most, nil, x.err)
	}
}

func TestUnpackOfWhatPackDoesNotProduce(t *testing.T) {
	for _, x := range []struct {
		e    []byte
		want string
	}{
		// Longer than the bytes.
		{lits([]byte("a")), "a"},
		{join(lits([]byte("a")), lits([]byte("b")), lits([]byte("c"))), "abc"},
		// Literals that could be a match, and matches that could be one.
		{lits([]byte("aaaaaaaa")), "aaaaaaaa"},
		{join(lits([]byte("a")), ref(1, 3), ref(1, 3), ref(4, 3)), "aaaaaaaaaa"},
		// A match that is not the longest one, nor the nearest, nor gives way.
		{join(lits([]byte("abab")), ref(4, 3), lits([]byte("b"))), "abababab"},
		{join(lits([]byte("abcXbcdefY")), ref(10, 3), lits([]byte("def"))), "abcXbcdefYabcdef"},
	} {
		p := join(form(1), x.e)
		checkUnpack(t, p, len(x.want), []byte(x.want), api.OK)
		checkUnpack(t, p, len(x.want)-1, nil, api.ErrLong)
		if bytes.Equal(lz.Pack([]byte(x.want)), p) {
			t.Errorf("Pack does produce %v", p)
		}
	}
}

func TestUnpackOfAllShortBytes(t *testing.T) {
	for _, p := range append(words("\x00\x01\x02\x7f\x80\x81\xff", 5), words("\x00\x01\x80", 7)...) {
		for _, most := range []int{-1, 0, 1, 2, 3, 4, 5, 6, 7, 130, math.MaxInt} {
			want, err := unpack(p, most)
			checkUnpack(t, p, most, want, err)
		}
	}
}

func TestUnpackOfAnyBytes(t *testing.T) {
	for n := range 600 {
		for _, letters := range []int{2, 4, 130, 131, 140, 255} {
			p := scattered(n, letters)
			for _, first := range []byte{0, 1} {
				p := join([]byte{first}, p)
				for _, most := range []int{math.MinInt, 10, 100, 1000, math.MaxInt} {
					want, err := unpack(p, most)
					checkUnpack(t, p, most, want, err)
				}
			}
		}
	}
}

func TestUnpackOfPackedBytesThatWereChanged(t *testing.T) {
	for _, b := range samples() {
		p := lz.Pack(b)
		for at := 0; at < len(p); at += 1 + len(p)/50 {
			for _, c := range []byte{0, 1, 127, 128, 200, 255} {
				other := bytes.Clone(p)
				other[at] = c
				want, err := unpack(other, len(b))
				checkUnpack(t, other, len(b), want, err)
			}
			want, err := unpack(p[:at], len(b))
			checkUnpack(t, p[:at], len(b), want, err)
		}
	}
}

// P6.3

func TestUnpackRestoresWhatPackCompressed(t *testing.T) {
	l := append(samples(), words("ab", 9)...)
	l = append(l, make([]byte, 70000), scattered(50000, 3), bytes.Repeat(unlike(300), 100), unlike(65536))
	for _, b := range l {
		p := lz.Pack(b)
		if len(p) > len(b)+1 {
			t.Errorf("Pack(%d bytes %.40q) has %d bytes", len(b), b, len(p))
		}
		for _, most := range []int{len(b), len(b) + 1, math.MaxInt} {
			checkUnpack(t, p, most, b, api.OK)
		}
		if len(b) > 0 {
			checkUnpack(t, p, len(b)-1, nil, api.ErrLong)
			checkUnpack(t, p, 0, nil, api.ErrLong)
			checkUnpack(t, p, -1, nil, api.ErrLong)
		}
	}
}

func TestPackOfPackedBytes(t *testing.T) {
	for _, b := range samples() {
		once := lz.Pack(b)
		checkUnpack(t, lz.Pack(once), len(once), once, api.OK)
	}
}

// P6.4

func TestEqualBytesBecomeShorter(t *testing.T) {
	for _, c := range []byte{0, 1, 'a', 128, 255} {
		for n := 6; n < 1000; n++ {
			b := bytes.Repeat([]byte{c}, n)
			if got, most := len(lz.Pack(b)), 6+(n-1)/maxMatch*2; got >= n || got > most+2 {
				t.Errorf("%d bytes %d become %d", n, c, got)
			}
		}
	}
}

func TestRepeatedSequencesBecomeShorter(t *testing.T) {
	for period := 1; period <= window; period++ {
		for n := max(2*period, period+6); n < 900; n += 1 + period/3 {
			b := bytes.Repeat(unlike(period), n/period+1)[:n]
			most := 1 + period + 3 + 2*((n-period)/maxMatch+1) + 3
			if got := len(lz.Pack(b)); got >= n || got > most {
				t.Errorf("%d bytes, which come again behind %d, become %d", n, period, got)
			}
		}
	}
}

// Rules 3 to 6 of the document

// guarded returns the bytes as a part of a greater array, and that array.
func guarded(s []byte) (part, array []byte) {
	array = append([]byte("<<<"), s...)
	array = append(array, ">>>>>>>>"...)
	return array[3 : 3+len(s) : len(array)], array
}

// packed returns packed bytes of all kinds: such as Pack produces and others, and some that are wrong.
func packed() [][]byte {
	l := [][]byte{nil, {0}, {1}, {2, 0, 97}, {1, 128, 0}, {1, 5, 97}, join(form(1), lits(unlike(100))), join(form(1), lits([]byte("ab")), ref(2, 130))}
	for _, b := range samples() {
		l = append(l, lz.Pack(b), join(form(0), b), join(form(1), allLits(b)))
	}
	return l
}

func TestBytesHandedInAreNotChanged(t *testing.T) {
	for _, b := range append(samples(), packed()...) {
		part, array := guarded(b)
		before := bytes.Clone(array)
		lz.Pack(part)
		for _, most := range []int{-1, 0, len(b) / 2, len(b), math.MaxInt} {
			lz.Unpack(part, most)
		}
		if !bytes.Equal(array, before) {
			t.Errorf("%d bytes %.40q were changed", len(b), b)
		}
	}
}

func TestBeyondTheLengthIsNotRead(t *testing.T) {
	for _, array := range [][]byte{make([]byte, 300), bytes.Repeat([]byte("abc"), 100), bytes.Repeat(unlike(100), 3), unlike(300)} {
		for n := range array {
			checkPack(t, array[:n], pack(array[:n:n]))
		}
	}
	for _, array := range packed() {
		for n := range array {
			want, err := unpack(bytes.Clone(array[:n]), 600)
			checkUnpack(t, array[:n], 600, want, err)
		}
	}
}

func TestResultsAreTheCallersOwn(t *testing.T) {
	spoil := func(b []byte) {
		for i := range b[:cap(b)] {
			b[:cap(b)][i] ^= 0xff
		}
	}
	for _, b := range append(samples(), packed()...) {
		part, array := guarded(b)
		before := bytes.Clone(array)
		p := [2][]byte{lz.Pack(part), lz.Pack(part)}
		out, err := lz.Unpack(part, math.MaxInt)
		other, _ := lz.Unpack(part, math.MaxInt)
		// Neither an argument nor another result changes with a result.
		wantPack, wantOut := bytes.Clone(p[1]), bytes.Clone(other)
		spoil(p[0])
		spoil(out)
		if !bytes.Equal(array, before) || !bytes.Equal(p[1], wantPack) || !bytes.Equal(other, wantOut) {
			t.Errorf("a result of %d bytes %.40q shares memory", len(b), b)
		}
		// Nor does a result change with the argument.
		for i := range array {
			array[i] ^= 0xff
		}
		if !bytes.Equal(p[1], wantPack) || !bytes.Equal(other, wantOut) {
			t.Errorf("a result shares memory with the %d bytes %.40q", len(b), b)
		}
		checkPack(t, b, wantPack)
		checkUnpack(t, b, math.MaxInt, wantOut, err)
	}
}

func TestSameCallsSameResults(t *testing.T) {
	b := scattered(600, 3)
	p := pack(b)
	for _, other := range append(samples(), packed()...) {
		lz.Pack(other)
		lz.Unpack(other, len(other))
		if !bytes.Equal(lz.Pack(b), p) {
			t.Fatalf("the packed bytes became others behind %d bytes %.40q", len(other), other)
		}
		if got, err := lz.Unpack(p, 600); !slices.Equal(got, b) || err != api.OK {
			t.Fatalf("the bytes became others behind %d bytes %.40q", len(other), other)
		}
	}
}
