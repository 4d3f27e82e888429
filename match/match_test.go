package match_test

import (
	"bytes"
	"math"
	"slices"
	"testing"

	"pumice/match"
)

// What the document names: how far back a match may lie, and how many bytes it has at least and at most.
const (
	window   = 256
	minMatch = 3
	maxMatch = 130
)

// unlike returns n bytes in which no three bytes come again.
func unlike(n int) []byte {
	b := make([]byte, n)
	seen := map[[3]byte]bool{}
	for i := range b {
		b[i] = byte(i * 3)
		for i >= 2 && seen[[3]byte(b[i-2:])] {
			b[i]++
		}
		if i >= 2 {
			seen[[3]byte(b[i-2:])] = true
		}
	}
	return b
}

// scattered returns n bytes of so many different ones, in no order to speak of.
func scattered(n, letters int) []byte {
	b := make([]byte, n)
	x := uint32(n + letters)
	for i := range b {
		x = x*1664525 + 1013904223
		b[i] = byte(x>>16) % byte(letters)
	}
	return b
}

// again returns bytes in which the n first ones come again at a distance of at least n, followed by another byte.
func again(distance, n int) []byte {
	b := unlike(distance + n + 1)
	copy(b[distance:], b[:n])
	b[distance+n] = b[n] + 1
	return b
}

// words returns all byte strings of up to most bytes that consist of the first letters.
func words(letters, most int) [][]byte {
	l := [][]byte{nil}
	for from := 0; len(l[from]) < most; from++ {
		for c := range letters {
			l = append(l, append(bytes.Clone(l[from]), 'a'+byte(c)))
		}
	}
	return l
}

// samples returns byte strings of all kinds: short and long ones, of one byte and of many, with matches at all distances and none.
func samples() [][]byte {
	l := [][]byte{nil, {}, []byte("abcabcab"), []byte("aaaaa"), []byte("the cat sat on the mat, the cat that sat"), capped()}
	for n := range 12 {
		l = append(l, unlike(n), bytes.Repeat([]byte{0}, n), bytes.Repeat([]byte{255}, n))
	}
	for _, n := range []int{128, 129, 130, 131, 132, 133, 134, 255, 256, 257, 258, 259, 260, 390, 700} {
		l = append(l, bytes.Repeat([]byte{7}, n), unlike(n), append(unlike(n), unlike(n)...))
	}
	for _, period := range []int{2, 3, 4, 50, 127, 128, 129, 130, 131, 255, 256, 257} {
		l = append(l, bytes.Repeat(unlike(period), 700/period+1)[:700])
	}
	for _, letters := range []int{2, 3, 4, 8, 255} {
		l = append(l, scattered(900, letters))
	}
	for _, n := range []int{3, 4, 128, 129, 130, 131} {
		l = append(l, again(255, n), again(256, n), again(257, n))
	}
	return l
}

// capped returns bytes in which a match at 200 is cut off: at a distance of 150 it has just the most bytes, at 200 it would have one more.
func capped() []byte {
	part := unlike(50)
	b := bytes.Repeat(part, 4)[:180]
	b = append(b, '<')
	b = append(b, bytes.Repeat([]byte{'-'}, 19)...)
	b = append(b, bytes.Repeat(part, 3)[:maxMatch+1]...)
	return append(b, '>')
}

// isPosition tells whether b has a byte there.
func isPosition(b []byte, i int) bool {
	return 0 <= i && i < len(b)
}

// common returns what Common is to return: the length of the longest equal parts that are not too long.
func common(b []byte, i, k int) int {
	if !isPosition(b, i) || !isPosition(b, k) {
		return 0
	}
	for n := maxMatch; n > 0; n-- {
		if i+n <= len(b) && k+n <= len(b) && bytes.Equal(b[i:i+n], b[k:k+n]) {
			return n
		}
	}
	return 0
}

// longest returns what Longest is to return, from the greatest distance to the least.
func longest(b []byte, at int) (int, int) {
	if !isPosition(b, at) {
		return 0, 0
	}
	distance, length := 0, 0
	for k := max(at-window, 0); k < at; k++ {
		if b[k] != b[at] {
			continue
		}
		if n := common(b, k, at); n >= minMatch && n >= length {
			distance, length = at-k, n
		}
	}
	return distance, length
}

func checkCommon(t *testing.T, b []byte, i, k, want int) {
	t.Helper()
	if got := match.Common(b, i, k); got != want {
		t.Errorf("Common(%d bytes %.20q, %d, %d) = %d, want %d", len(b), b, i, k, got, want)
	}
}

func checkLongest(t *testing.T, b []byte, at, distance, length int) {
	t.Helper()
	if d, n := match.Longest(b, at); d != distance || n != length {
		t.Errorf("Longest(%d bytes %.20q, %d) = %d, %d, want %d, %d", len(b), b, at, d, n, distance, length)
	}
}

// checkAll checks that All has at each position what is to be there.
func checkAll(t *testing.T, b []byte, want func(b []byte, at int) (int, int)) {
	t.Helper()
	all := match.All(b)
	if len(all) != len(b) {
		t.Errorf("All(%d bytes %.20q) has %d elements", len(b), b, len(all))
		return
	}
	for at, got := range all {
		if d, n := want(b, at); got != [2]int{d, n} {
			t.Errorf("All(%d bytes %.20q) has %v at %d, want %d, %d", len(b), b, got, at, d, n)
			return
		}
	}
}

// P5.1

func TestCommonOfSomeBytes(t *testing.T) {
	for _, x := range []struct {
		b    string
		i, k int
		want int
	}{
		{"abcabcab", 0, 3, 5},
		{"abcabcab", 1, 4, 4},
		{"abcabcab", 0, 1, 0},
		{"abcabcab", 5, 2, 3},
		{"abcabcab", 0, 6, 2},
		{"abcabcab", 7, 1, 1},
		{"aaaaa", 0, 1, 4},
		{"aaaaa", 0, 4, 1},
		{"aaaaa", 3, 1, 2},
		{"abxaby", 0, 3, 2},
		{"axbayb", 2, 5, 1},
		{"a", 0, 0, 1},
		{"ab", 0, 1, 0},
		{"aa", 0, 1, 1},
		{"\x00\x00\x00", 0, 1, 2},
	} {
		checkCommon(t, []byte(x.b), x.i, x.k, x.want)
	}
}

func TestCommonOfAllShortBytes(t *testing.T) {
	for _, b := range append(words(2, 8), words(3, 5)...) {
		for i := -2; i < len(b)+3; i++ {
			for k := -2; k < len(b)+3; k++ {
				checkCommon(t, b, i, k, common(b, i, k))
			}
		}
	}
}

func TestCommonOfManyBytes(t *testing.T) {
	for _, b := range samples() {
		for i := range b {
			for _, k := range []int{0, i / 2, i - 1, i - 50, i - 255, i - 256, i - 257, len(b) - 1, len(b) - 130, len(b) - 131} {
				want := common(b, i, k)
				checkCommon(t, b, i, k, want)
				checkCommon(t, b, k, i, want)
			}
		}
	}
}

func TestCommonWhereThereIsNoPosition(t *testing.T) {
	for _, b := range [][]byte{nil, {}, []byte("a"), []byte("aaaa"), make([]byte, 300)} {
		for _, i := range []int{-1, -2, -130, -256, -len(b) - 1, math.MinInt, math.MinInt + 1, len(b), len(b) + 1, len(b) + 130, math.MaxInt, math.MaxInt - 1, math.MaxInt - 129} {
			checkCommon(t, b, i, i, 0)
			for _, k := range []int{0, 1, len(b) - 1, len(b), -1, math.MinInt, math.MaxInt} {
				checkCommon(t, b, i, k, 0)
				checkCommon(t, b, k, i, 0)
			}
		}
	}
}

func TestCommonOfTheSamePositionTwice(t *testing.T) {
	for _, b := range [][]byte{[]byte("a"), []byte("abc"), unlike(129), unlike(130), unlike(131), unlike(400)} {
		for i := range b {
			checkCommon(t, b, i, i, min(len(b)-i, maxMatch))
		}
	}
}

func TestCommonEndsWithTheBytes(t *testing.T) {
	for n := range 100 {
		b := append(unlike(n+1), unlike(n+1)...)
		for i := range n + 1 {
			checkCommon(t, b, i, n+1+i, n+1-i)
			checkCommon(t, b, n+1+i, i, n+1-i)
		}
		checkCommon(t, make([]byte, n+2), 0, 1, n+1)
		checkCommon(t, make([]byte, n+2), n+1, 0, 1)
	}
}

func TestCommonEndsAtTheFirstDifference(t *testing.T) {
	for n := range 140 {
		for bit := range 8 {
			b := make([]byte, 400)
			b[200+n] = 1 << bit
			checkCommon(t, b, 0, 200, min(n, maxMatch))
			checkCommon(t, b, 200, 0, min(n, maxMatch))
		}
	}
	// Bytes that are equal behind a difference do not count.
	checkCommon(t, []byte("abcXefg abcYefg"), 0, 8, 3)
}

func TestCommonHasAtMost130Bytes(t *testing.T) {
	for _, n := range []int{128, 129, 130, 131, 132, 200, 1000} {
		checkCommon(t, make([]byte, n), 0, 0, min(n, maxMatch))
		checkCommon(t, make([]byte, n+1), 0, 1, min(n, maxMatch))
		checkCommon(t, append(unlike(n), unlike(n)...), 0, n, min(n, maxMatch))
		checkCommon(t, again(n+5, n), 0, n+5, min(n, maxMatch))
	}
}

func TestCommonIsFarBeyondTheWindowToo(t *testing.T) {
	checkCommon(t, make([]byte, 100000), 0, 99990, 10)
	checkCommon(t, make([]byte, 100000), 3, 70000, maxMatch)
	checkCommon(t, again(257, 20), 0, 257, 20)
}

// P5.2

func TestLongestOfTheExamples(t *testing.T) {
	checkLongest(t, []byte("abcabcab"), 3, 3, 5)
	checkLongest(t, []byte("abcabcab"), 1, 0, 0)
	checkLongest(t, []byte("aaaaa"), 1, 1, 4)
}

func TestLongestOfSomeBytes(t *testing.T) {
	for _, x := range []struct {
		b                string
		at               int
		distance, length int
	}{
		{"abcabcab", 0, 0, 0},
		{"abcabcab", 2, 0, 0},
		{"abcabcab", 4, 3, 4},
		{"abcabcab", 5, 3, 3},
		// Two bytes are too few.
		{"abcabcab", 6, 0, 0},
		{"abcabcab", 7, 0, 0},
		{"abxaby", 3, 0, 0},
		{"abxab", 3, 0, 0},
		{"abcxabd", 4, 0, 0},
		// Three are enough.
		{"abcxabcy", 4, 4, 3},
		{"abcabc", 3, 3, 3},
		{"aaaa", 1, 1, 3},
		{"aaa", 1, 0, 0},
		{"\x00\x00\x00\x00", 1, 1, 3},
		// The least distance of those with the same length.
		{"abcxabcyabcz", 8, 4, 3},
		{"abcabcabc", 6, 3, 3},
		{"abcdxabcdyabcdzabcd", 15, 5, 4},
		{"aaaaa", 2, 1, 3},
		{"xabcdyabczabcd", 10, 9, 4},
		// The longest one, nearer or farther than others.
		{"abcdxabcyabcd", 9, 9, 4},
		{"abcxabcdyabcd", 9, 5, 4},
		{"abcxabcdexabcdyabcde", 15, 11, 5},
		// Matches that overlap the bytes they match.
		{"aaaaab", 1, 1, 4},
		{"ababababx", 2, 2, 6},
		{"abcabcabcabx", 3, 3, 8},
		{"aabaabaabaa", 3, 3, 8},
	} {
		checkLongest(t, []byte(x.b), x.at, x.distance, x.length)
	}
}

func TestLongestOfAllShortBytes(t *testing.T) {
	for _, b := range append(words(2, 11), words(3, 7)...) {
		for at := -2; at < len(b)+3; at++ {
			d, n := longest(b, at)
			checkLongest(t, b, at, d, n)
		}
	}
}

func TestLongestOfManyBytes(t *testing.T) {
	for _, b := range samples() {
		for at := range b {
			d, n := longest(b, at)
			checkLongest(t, b, at, d, n)
		}
	}
}

func TestLongestWhereThereIsNoPosition(t *testing.T) {
	for _, b := range [][]byte{nil, {}, []byte("a"), []byte("aaa"), []byte("aaaaaaaa"), make([]byte, 600)} {
		for _, at := range []int{-1, -2, -3, -130, -256, -257, -len(b), math.MinInt, math.MinInt + 256, len(b), len(b) + 1, len(b) + 2, len(b) + 256, math.MaxInt, math.MaxInt - 1, math.MaxInt - 2, math.MaxInt - 3} {
			if isPosition(b, at) {
				continue
			}
			checkLongest(t, b, at, 0, 0)
		}
	}
}

func TestLongestAtTheFirstPosition(t *testing.T) {
	for _, b := range samples() {
		checkLongest(t, b, 0, 0, 0)
	}
}

func TestLongestAtTheEnd(t *testing.T) {
	for n := 4; n < 400; n++ {
		b := make([]byte, n)
		checkLongest(t, b, n-1, 0, 0)
		checkLongest(t, b, n-2, 0, 0)
		checkLongest(t, b, n-3, 1, 3)
	}
}

func TestLongestAtEachDistance(t *testing.T) {
	for _, n := range []int{3, 4, 20} {
		for distance := n; distance < 300; distance++ {
			want := [2]int{distance, n}
			if distance > window {
				want = [2]int{}
			}
			checkLongest(t, again(distance, n), distance, want[0], want[1])
		}
	}
	for _, n := range []int{128, 129, 130, 131, 132} {
		for _, distance := range []int{254, 255, 256} {
			checkLongest(t, again(distance, n), distance, distance, min(n, maxMatch))
		}
		checkLongest(t, again(257, n), 257, 0, 0)
	}
}

func TestLongestBehindTheWindow(t *testing.T) {
	for _, n := range []int{3, 100, 130, 200} {
		for _, distance := range []int{257, 258, 300, 511, 512, 513, 70000} {
			checkLongest(t, again(distance, n), distance, 0, 0)
		}
	}
	// A longer match gives way to a shorter one only where it lies too far back.
	for distance := 250; distance < 265; distance++ {
		b := again(distance, 20)
		copy(b[100:], b[:5])
		b[105] = b[5] + 1
		if distance <= window {
			checkLongest(t, b, distance, distance, 20)
		} else {
			checkLongest(t, b, distance, distance-100, 5)
		}
	}
}

func TestLongestOfEqualBytes(t *testing.T) {
	for _, n := range []int{128, 129, 130, 131, 132, 133, 256, 257, 258, 400, 700} {
		b := bytes.Repeat([]byte{'a'}, n)
		for at := 1; at <= n-minMatch; at++ {
			checkLongest(t, b, at, 1, min(n-at, maxMatch))
		}
	}
	// All of them again, behind another byte.
	for n := 3; n <= 132; n++ {
		b := append(bytes.Repeat([]byte{'a'}, n), 'x')
		b = append(append(b, bytes.Repeat([]byte{'a'}, n)...), 'y')
		checkLongest(t, b, n+1, min(n, maxMatch)+1, min(n, maxMatch))
	}
}

func TestLongestIsTheNearestOfThoseWithTheMostBytes(t *testing.T) {
	b := capped()
	if near, far := common(b, 50, 200), common(b[:330], 0, 200); near != maxMatch || far != maxMatch || b[330] != b[130] || b[330] == b[180] {
		t.Fatalf("the bytes are not those that were meant: %d, %d", near, far)
	}
	checkLongest(t, b, 200, 150, maxMatch)
	for _, period := range []int{1, 2, 3, 50, 100, 127} {
		b := bytes.Repeat(unlike(period), 800/period)
		for at := period; at <= len(b)-maxMatch; at++ {
			checkLongest(t, b, at, period, maxMatch)
		}
	}
}

func TestLongestTellsHeadsApartByEachByte(t *testing.T) {
	for i := range 3 {
		for bit := range 8 {
			b := []byte("abcdefxabcdefy")
			b[7+i] ^= 1 << bit
			checkLongest(t, b, 7, 0, 0)
		}
	}
}

// P5.3

func TestAllOfTheExamples(t *testing.T) {
	for _, x := range []struct {
		b    string
		want [][2]int
	}{
		{"abcabcab", [][2]int{{}, {}, {}, {3, 5}, {3, 4}, {3, 3}, {}, {}}},
		{"aaaaa", [][2]int{{}, {1, 4}, {1, 3}, {}, {}}},
		{"a", [][2]int{{}}},
		{"aa", [][2]int{{}, {}}},
		{"aaa", [][2]int{{}, {}, {}}},
		{"aaaa", [][2]int{{}, {1, 3}, {}, {}}},
		{"abcxabcyabc", [][2]int{{}, {}, {}, {}, {4, 3}, {}, {}, {}, {4, 3}, {}, {}}},
	} {
		if got := match.All([]byte(x.b)); !slices.Equal(got, x.want) {
			t.Errorf("All(%q) = %v, want %v", x.b, got, x.want)
		}
	}
}

func TestAllOfNoBytes(t *testing.T) {
	for _, b := range [][]byte{nil, {}, []byte("aaaaaaa")[:0]} {
		if got := match.All(b); len(got) != 0 {
			t.Errorf("All of no bytes = %v", got)
		}
	}
}

func TestAllOfAllShortBytes(t *testing.T) {
	for _, b := range append(words(2, 11), words(3, 7)...) {
		checkAll(t, b, longest)
		checkAll(t, b, match.Longest)
	}
}

func TestAllOfManyBytes(t *testing.T) {
	for _, b := range samples() {
		checkAll(t, b, longest)
		checkAll(t, b, match.Longest)
	}
}

func TestAllAtEachDistance(t *testing.T) {
	for _, n := range []int{3, 4, 130} {
		for distance := n; distance < 300; distance++ {
			checkAll(t, again(distance, n), match.Longest)
		}
	}
}

func TestAllOfLongBytes(t *testing.T) {
	for _, b := range [][]byte{
		make([]byte, 70000),
		bytes.Repeat([]byte{255}, 65536),
		bytes.Repeat([]byte("ab"), 30000),
		bytes.Repeat(unlike(256), 200),
		bytes.Repeat(unlike(257), 200),
		scattered(50000, 2),
		scattered(50000, 5),
		scattered(50000, 100),
	} {
		checkAll(t, b, match.Longest)
	}
}

func TestAllOfLongBytesOfWhichNoThreeComeAgain(t *testing.T) {
	for _, n := range []int{256, 257, 5000, 70000} {
		none := func([]byte, int) (int, int) { return 0, 0 }
		checkAll(t, unlike(n), none)
		checkAll(t, unlike(n), match.Longest)
	}
}

// P5.4

func TestTheBytesOfAMatchAreThoseAtItsDistance(t *testing.T) {
	for _, b := range append(samples(), words(2, 9)...) {
		for at, m := range match.All(b) {
			d, n := m[0], m[1]
			if n == 0 {
				continue
			}
			if n < minMatch || n > maxMatch || d < 1 || d > window || d > at || at+n > len(b) {
				t.Fatalf("%d bytes %.20q have the match %d, %d at %d", len(b), b, d, n, at)
			}
			if !bytes.Equal(b[at:at+n], b[at-d:at-d+n]) {
				t.Fatalf("%d bytes %.20q: the match %d, %d at %d has other bytes", len(b), b, d, n, at)
			}
			if n < maxMatch && at+n < len(b) && b[at+n] == b[at+n-d] {
				t.Fatalf("%d bytes %.20q: the match %d, %d at %d goes on", len(b), b, d, n, at)
			}
		}
	}
}

// P5.5

func TestAMatchIsAtMostAByteShorterThanTheOneBefore(t *testing.T) {
	for _, b := range append(samples(), words(2, 9)...) {
		before := 0
		for at, m := range match.All(b) {
			// Two bytes are left of a match of three, which are none.
			if before > minMatch && before < maxMatch && m[1] < before-1 {
				t.Fatalf("%d bytes %.20q have a match of %d bytes at %d, and one of %d before it", len(b), b, m[1], at, before)
			}
			before = m[1]
		}
	}
}

func TestMatchesByTheByte(t *testing.T) {
	// One byte less at each position, down to the least match.
	b := again(200, 100)
	for i := range 100 {
		d, n := 200, 100-i
		if n < minMatch {
			d, n = 0, 0
		}
		checkLongest(t, b, 200+i, d, n)
	}
}

// Rules 3 to 6 of the document

// guarded returns the bytes as a part of a greater array, and that array.
func guarded(s []byte) (part, array []byte) {
	array = append([]byte("<<<"), s...)
	array = append(array, ">>>>>>>>"...)
	return array[3 : 3+len(s) : len(array)], array
}

func TestBytesHandedInAreNotChanged(t *testing.T) {
	for _, b := range samples() {
		part, array := guarded(b)
		before := bytes.Clone(array)
		match.All(part)
		for at := -1; at <= len(part); at += 7 {
			match.Longest(part, at)
			match.Common(part, at, len(part)/2)
		}
		if !bytes.Equal(array, before) {
			t.Errorf("%d bytes %.20q were changed", len(b), b)
		}
	}
}

func TestBeyondTheLengthIsNotRead(t *testing.T) {
	for _, array := range [][]byte{make([]byte, 300), bytes.Repeat([]byte("abc"), 100), bytes.Repeat(unlike(100), 3), unlike(300)} {
		for n := range array {
			alone, part := bytes.Clone(array[:n]), array[:n]
			if !slices.Equal(match.All(part), match.All(alone)) {
				t.Errorf("All reads beyond %d bytes of %.20q", n, array)
			}
			for at := max(n-5, 0); at < n+5; at++ {
				d, length := longest(alone, at)
				checkLongest(t, part, at, d, length)
				checkCommon(t, part, at-min(at, 3), at, common(alone, at-min(at, 3), at))
			}
		}
	}
}

func TestBytesHandedInAreNotKept(t *testing.T) {
	for _, b := range samples() {
		part, array := guarded(b)
		all := match.All(part)
		before := slices.Clone(all)
		for i := range array {
			array[i] = 'x'
		}
		if !slices.Equal(all, before) {
			t.Errorf("the matches of %d bytes %.20q became others", len(b), b)
		}
		checkAll(t, b, match.Longest)
	}
}

func TestResultsAreTheCallersOwn(t *testing.T) {
	for _, b := range samples() {
		first, second := match.All(b), match.All(b)
		want := slices.Clone(second)
		first = first[:cap(first)]
		for i := range first {
			first[i] = [2]int{-1, -1}
		}
		if !slices.Equal(second, want) || !slices.Equal(match.All(b), want) {
			t.Errorf("other results of %d bytes %.20q became others", len(b), b)
		}
	}
}

func TestSameCallsSameResults(t *testing.T) {
	b := scattered(600, 3)
	want := match.All(b)
	for _, other := range samples() {
		match.All(other)
		match.Longest(other, len(other)/2)
		match.Common(other, 0, len(other)-1)
		if !slices.Equal(match.All(b), want) {
			t.Fatalf("the matches became others behind %d bytes %.20q", len(other), other)
		}
		checkLongest(t, b, 300, want[300][0], want[300][1])
	}
}
