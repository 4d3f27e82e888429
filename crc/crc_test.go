package crc_test

import (
	"bytes"
	"hash/crc32"
	"math/bits"
	"testing"

	"pumice/crc"
)

// residue is the checksum of all sealed bytes.
const residue = 0x2144DF1C

// pattern returns n bytes that differ from their neighbours.
func pattern(n int) []byte {
	b := make([]byte, n)
	for i := range b {
		b[i] = byte(i*7 + i/256 + 1)
	}
	return b
}

// samples returns byte strings of all kinds: none, each single byte, several lengths, all bits alike.
func samples() [][]byte {
	l := [][]byte{nil, {}, []byte("123456789"), []byte("some bytes"), {0x9D, 0x0A, 0xD9, 0x6D}}
	for c := range 256 {
		l = append(l, []byte{byte(c)})
	}
	for n := range 70 {
		l = append(l, pattern(n), make([]byte, n), bytes.Repeat([]byte{255}, n))
	}
	return append(l, pattern(255), pattern(256), pattern(257), pattern(70000))
}

// sums returns checksums: none and all bits, each single bit, all bits but one, and others.
func sums() []uint32 {
	l := []uint32{0, 0xFFFFFFFF, 0xCBF43926, 0x12345678, 0xEDB88320, residue}
	for i := range 32 {
		l = append(l, 1<<i, ^uint32(1<<i))
	}
	return l
}

// sealed returns b and its checksum behind it, worked out by other means than the package's.
func sealed(b []byte) []byte {
	s := crc32.ChecksumIEEE(b)
	return append(bytes.Clone(b), byte(s), byte(s>>8), byte(s>>16), byte(s>>24))
}

func checkSum(t *testing.T, b []byte, want uint32) {
	t.Helper()
	if got := crc.Sum(b); got != want {
		t.Errorf("Sum(%d bytes %.20x) = %08X, want %08X", len(b), b, got, want)
	}
}

func checkMore(t *testing.T, sum uint32, b []byte, want uint32) {
	t.Helper()
	if got := crc.More(sum, b); got != want {
		t.Errorf("More(%08X, %d bytes %.20x) = %08X, want %08X", sum, len(b), b, got, want)
	}
}

func checkOpen(t *testing.T, b, want []byte) {
	t.Helper()
	if got, ok := crc.Open(b); !ok || !bytes.Equal(got, want) {
		t.Errorf("Open(%d bytes %.20x) = %.20x, %v; want %.20x, true", len(b), b, got, ok, want)
	}
}

func checkRefused(t *testing.T, b []byte) {
	t.Helper()
	if got, ok := crc.Open(b); ok || len(got) != 0 {
		t.Errorf("Open(%d bytes %.20x) = %.20x, %v; want nothing, false", len(b), b, got, ok)
	}
}

// P2.1

func TestSumOfKnownBytes(t *testing.T) {
	for _, x := range []struct {
		b   string
		sum uint32
	}{
		{"", 0},
		{"123456789", 0xCBF43926},
		{"\x00", 0xD202EF8D},
		{"\x01", 0xA505DF1B},
		{"\x80", 0x3FBA6CAD},
		{"\xff", 0xFF000000},
		{"a", 0xE8B7BE43},
		{"abc", 0x352441C2},
		{"\x00\x00\x00\x00", residue},
		{"\x9d\x0a\xd9\x6d", 0},
		{"\xff\xff\xff\xff", 0xFFFFFFFF},
		{"The quick brown fox jumps over the lazy dog", 0x414FA339},
	} {
		checkSum(t, []byte(x.b), x.sum)
	}
	checkSum(t, nil, 0)
}

func TestMoreOfKnownBytes(t *testing.T) {
	for _, x := range []struct {
		sum  uint32
		b    string
		want uint32
	}{
		{0, "123456789", 0xCBF43926},
		{0, "", 0},
		{0x12345678, "", 0x12345678},
		{0xFFFFFFFF, "", 0xFFFFFFFF},
		// The register is 0, and bytes of 0 leave it so.
		{0xFFFFFFFF, "\x00\x00\x00\x00\x00", 0xFFFFFFFF},
		{0xFFFFFFFF, "\x01", ^uint32(0x77073096)},
		{0xFFFFFFFF, "\x80", ^uint32(0xEDB88320)},
		{0, "\xff\xff\xff\xff", 0xFFFFFFFF},
	} {
		checkMore(t, x.sum, []byte(x.b), x.want)
	}
}

func TestSumOfManyBytes(t *testing.T) {
	for _, b := range samples() {
		checkSum(t, b, crc32.ChecksumIEEE(b))
	}
}

func TestMoreOfManyBytes(t *testing.T) {
	for _, sum := range sums() {
		for _, b := range samples()[:400] {
			checkMore(t, sum, b, crc32.Update(sum, crc32.IEEETable, b))
		}
	}
}

func TestSumIsMoreOfNothing(t *testing.T) {
	for _, b := range samples() {
		checkSum(t, b, crc.More(0, b))
	}
}

// P2.2

func TestSealOfKnownBytes(t *testing.T) {
	for _, x := range []struct{ b, want string }{
		{"", "\x00\x00\x00\x00"},
		{"123456789", "123456789\x26\x39\xF4\xCB"},
		{"\x00", "\x00\x8D\xEF\x02\xD2"},
		{"\xff", "\xff\x00\x00\x00\xff"},
		{"\x9d\x0a\xd9\x6d", "\x9d\x0a\xd9\x6d\x00\x00\x00\x00"},
		{"\xff\xff\xff\xff", "\xff\xff\xff\xff\xff\xff\xff\xff"},
	} {
		if got := crc.Seal([]byte(x.b)); string(got) != x.want {
			t.Errorf("Seal(%x) = %x, want %x", x.b, got, x.want)
		}
		checkOpen(t, []byte(x.want), []byte(x.b))
	}
	if got := crc.Seal(nil); string(got) != "\x00\x00\x00\x00" {
		t.Errorf("Seal(nil) = %x", got)
	}
}

func TestSealOfManyBytes(t *testing.T) {
	for _, b := range samples() {
		if got := crc.Seal(b); !bytes.Equal(got, sealed(b)) {
			t.Errorf("Seal(%d bytes %.20x) = %d bytes, ending in %x", len(b), b, len(got), got[max(0, len(got)-8):])
		}
		checkOpen(t, sealed(b), b)
	}
}

func TestOpenOfFewerThanFourBytes(t *testing.T) {
	checkRefused(t, nil)
	for n := range 4 {
		checkRefused(t, make([]byte, n))
		checkRefused(t, bytes.Repeat([]byte{255}, n))
		checkRefused(t, pattern(n))
	}
}

func TestOpenOfFourBytes(t *testing.T) {
	checkOpen(t, make([]byte, 4), nil)
	for i := range 32 {
		b := make([]byte, 4)
		b[i/8] ^= 1 << (i % 8)
		checkRefused(t, b)
	}
	checkRefused(t, []byte{255, 255, 255, 255})
	checkRefused(t, []byte{0x1C, 0xDF, 0x44, 0x21})
}

func TestOpenRefusesOtherSeals(t *testing.T) {
	for _, b := range [][]byte{{7}, []byte("123456789"), pattern(100)} {
		s := sealed(b)
		n := len(b)
		wrong := map[string][]byte{
			"no seal":             b,
			"the greatest first":  append(bytes.Clone(b), s[n+3], s[n+2], s[n+1], s[n]),
			"an inverted seal":    append(bytes.Clone(b), ^s[n], ^s[n+1], ^s[n+2], ^s[n+3]),
			"a seal of 0":         append(bytes.Clone(b), 0, 0, 0, 0),
			"a seal of all bits":  append(bytes.Clone(b), 255, 255, 255, 255),
			"the seal ahead":      append(bytes.Clone(s[n:]), b...),
			"one byte cut":        s[:n+3],
			"one byte more":       append(bytes.Clone(s), 1),
			"the first byte gone": s[1:],
		}
		for name, w := range wrong {
			if x, ok := crc.Open(w); ok || len(x) != 0 {
				t.Errorf("%d bytes, %s: %x, %v", n, name, x, ok)
			}
		}
	}
}

// P2.3

func TestSumOfConcatenation(t *testing.T) {
	for _, b := range [][]byte{nil, {0}, []byte("123456789"), make([]byte, 20), pattern(300)} {
		for i := range len(b) + 1 {
			checkMore(t, crc.Sum(b[:i]), b[i:], crc.Sum(b))
			checkMore(t, crc.More(0xFFFFFFFF, b[:i]), b[i:], crc.More(0xFFFFFFFF, b))
		}
	}
	sum := uint32(0)
	for _, c := range pattern(300) {
		sum = crc.More(sum, []byte{c})
	}
	checkSum(t, pattern(300), sum)
}

// P2.4

// bursts returns patterns of up to 32 bits to invert; the lowest bit of each is set.
func bursts() []uint32 {
	l := []uint32{0xFFFFFFFF, 0x55555555, 0xDB710641, 0xEDB88321, 0x04C11DB7, 0x80000003, 0xFF}
	state := uint32(1)
	for n := range 32 {
		state = state*1664525 + 1013904223
		l = append(l, 1|1<<n, 1|1<<n|state&(1<<n-1))
	}
	return l
}

// inverted returns b with the burst's bits inverted from a bit on; false if they reach beyond its end.
func inverted(b []byte, from int, burst uint32) ([]byte, bool) {
	if from+bits.Len32(burst) > 8*len(b) {
		return nil, false
	}
	c := bytes.Clone(b)
	for i := range 32 {
		if burst>>i&1 == 1 {
			c[(from+i)/8] ^= 1 << ((from + i) % 8)
		}
	}
	return c, true
}

// checkBurst inverts bits of sealed bytes, and asks both calls whether they see it.
func checkBurst(t *testing.T, b []byte, from int, burst uint32) {
	t.Helper()
	if c, ok := inverted(crc.Seal(b), from, burst); ok {
		checkRefused(t, c)
	}
	if c, ok := inverted(b, from, burst); ok && crc.Sum(c) == crc.Sum(b) {
		t.Errorf("%d bytes with the bits %08X inverted from bit %d on have the same sum", len(b), burst, from)
	}
}

func TestInvertedBitsAreSeen(t *testing.T) {
	// The bits run from the beginning through the middle and across the seal up to its end.
	for _, b := range [][]byte{nil, {0}, {255}, []byte("abcd"), []byte("some bytes"), pattern(40), make([]byte, 40)} {
		for _, burst := range bursts() {
			for from := range 8 * (len(b) + 4) {
				checkBurst(t, b, from, burst)
			}
		}
	}
}

func TestInvertedBitsOfLongBytesAreSeen(t *testing.T) {
	b := pattern(5000)
	for _, burst := range bursts() {
		for _, from := range []int{0, 1, 7, 8, 19999, 20000, 20001, 39967, 39968, 39975, 39984, 39992, 39999, 40000} {
			checkBurst(t, b, from, burst)
		}
	}
}

// P2.5

func TestOpenOfSeal(t *testing.T) {
	for _, b := range samples() {
		checkOpen(t, crc.Seal(b), b)
		checkOpen(t, crc.Seal(crc.Seal(b)), crc.Seal(b))
	}
}

func TestSealOfOpen(t *testing.T) {
	opened := 0
	for _, b := range samples() {
		for _, s := range [][]byte{b, sealed(b)} {
			x, ok := crc.Open(s)
			if !ok {
				continue
			}
			opened++
			if !bytes.Equal(crc.Seal(x), s) {
				t.Errorf("Seal(Open(%.20x)) = %.20x", s, crc.Seal(x))
			}
		}
	}
	if opened < len(samples()) {
		t.Errorf("%d opened", opened)
	}
}

func TestSumOfSealed(t *testing.T) {
	for _, b := range samples() {
		checkSum(t, crc.Seal(b), residue)
		if crc.Sum(b) != residue {
			// Bytes that are opened have the sum of sealed ones.
			checkRefused(t, b)
		}
	}
}

// P2.6

// between returns the four bytes by which More leads from one sum to another: the register's 32 steps are taken back.
func between(from, to uint32) []byte {
	reg := ^to
	for range 32 {
		if reg>>31 == 1 {
			reg = (reg^0xEDB88320)<<1 | 1
		} else {
			reg <<= 1
		}
	}
	reg ^= ^from
	return []byte{byte(reg), byte(reg >> 8), byte(reg >> 16), byte(reg >> 24)}
}

func TestFourBytesLeadFromSumToSum(t *testing.T) {
	for _, from := range sums() {
		for _, to := range sums() {
			checkMore(t, from, between(from, to), to)
		}
	}
}

func TestOtherFourBytesLeadElsewhere(t *testing.T) {
	for _, from := range sums() {
		for _, to := range sums()[:8] {
			for _, burst := range bursts() {
				other, _ := inverted(between(from, to), 0, burst)
				if crc.More(from, other) == to {
					t.Errorf("%x lead from %08X to %08X, and so do others", other, from, to)
				}
			}
		}
	}
}

// word returns the four bytes of a word.
func word(n uint32) []byte { return []byte{byte(n), byte(n >> 8), byte(n >> 16), byte(n >> 24)} }

func TestNoTwoWordsLeadToTheSameSum(t *testing.T) {
	// Each bit of the four bytes inverts bits of the sum of its own; no two choices of bits are the same if none is made up of the others.
	for _, from := range sums() {
		start := crc.More(from, word(0))
		var rows [32]uint32 // by the highest bit
		for i := range 32 {
			v := crc.More(from, word(1<<i)) ^ start
			for v != 0 && rows[31-bits.LeadingZeros32(v)] != 0 {
				v ^= rows[31-bits.LeadingZeros32(v)]
			}
			if v == 0 {
				t.Fatalf("from %08X, bit %d inverts what other bits invert", from, i)
			}
			rows[31-bits.LeadingZeros32(v)] = v
		}
		for i := range 32 {
			for j := range i {
				want := crc.More(from, word(1<<i)) ^ crc.More(from, word(1<<j)) ^ start
				checkMore(t, from, word(1<<i|1<<j), want)
			}
		}
	}
}

// Rules 3 to 6 of the document

// guarded returns the bytes as a part of a greater array, and that array.
func guarded(s []byte) (part, array []byte) {
	array = append([]byte("<<<"), s...)
	array = append(array, ">>>>>>>>"...)
	return array[3 : 3+len(s) : len(array)], array
}

// calls applies every call of the package to b.
func calls(b []byte) {
	crc.Sum(b)
	crc.More(0x12345678, b)
	crc.Seal(b)
	crc.Open(b)
}

func TestArgumentsAreNotChanged(t *testing.T) {
	for _, b := range [][]byte{{}, {1}, []byte("abcdefgh"), sealed(nil), sealed([]byte("abcdefgh")), pattern(300)} {
		part, array := guarded(b)
		before := bytes.Clone(array)
		calls(part)
		if !bytes.Equal(array, before) {
			t.Errorf("the argument became %q", array)
		}
	}
}

func TestBeyondTheLengthIsNotRead(t *testing.T) {
	s := sealed([]byte("abcdefgh"))
	array := append(bytes.Clone(s), ">>>>"...)
	for n := range len(array) + 1 {
		part, alone := array[:n], bytes.Clone(array[:n])
		if crc.Sum(part) != crc.Sum(alone) || crc.More(1, part) != crc.More(1, alone) || !bytes.Equal(crc.Seal(part), crc.Seal(alone)) {
			t.Errorf("what lies behind %d bytes counts", n)
		}
		if n != len(s) {
			checkRefused(t, part)
		}
	}
	checkOpen(t, array[:len(s)], []byte("abcdefgh"))
}

func TestArgumentsAreNotKept(t *testing.T) {
	part, array := guarded([]byte("abcd"))
	s := crc.Seal(part)
	for i := range array {
		array[i] = 'x'
	}
	if !bytes.Equal(s, sealed([]byte("abcd"))) {
		t.Errorf("the seal became %q", s)
	}

	part, array = guarded(sealed([]byte("abcd")))
	x, _ := crc.Open(part)
	for i := range array {
		array[i] = 'x'
	}
	if string(x) != "abcd" {
		t.Errorf("what was sealed became %q", x)
	}
}

// spoil changes a result, and all of its memory beyond its length.
func spoil(b []byte) {
	b = b[:cap(b)]
	for i := range b {
		b[i] = 'x'
	}
}

func TestSealIsTheCallersOwn(t *testing.T) {
	for _, b := range [][]byte{nil, []byte("abcd"), pattern(100)} {
		part, array := guarded(b)
		before := bytes.Clone(array)
		first, second := crc.Seal(part), crc.Seal(part)
		spoil(first)
		if !bytes.Equal(second, sealed(b)) || !bytes.Equal(crc.Seal(part), sealed(b)) {
			t.Errorf("another result became %.20x", second)
		}
		if !bytes.Equal(array, before) {
			t.Errorf("the argument became %.20x", array)
		}
	}
}

func TestOpenedBytesAreTheCallersOwn(t *testing.T) {
	for _, b := range [][]byte{nil, []byte("abcd"), pattern(100)} {
		part, array := guarded(sealed(b))
		before := bytes.Clone(array)
		first, _ := crc.Open(part)
		second, _ := crc.Open(part)
		spoil(first)
		if !bytes.Equal(second, b) {
			t.Errorf("another result became %.20x", second)
		}
		checkOpen(t, part, b)
		if !bytes.Equal(array, before) {
			t.Errorf("the argument became %.20x", array)
		}
	}
}

func TestSameCallsSameResults(t *testing.T) {
	b := pattern(50)
	sum, more, seal := crc.Sum(b), crc.More(7, b), crc.Seal(b)
	for _, other := range samples()[:300] {
		calls(other)
		if crc.Sum(b) != sum || crc.More(7, b) != more || !bytes.Equal(crc.Seal(b), seal) {
			t.Fatalf("the results are others after the calls of %x", other)
		}
	}
}
