package sponge_test

import (
	"bytes"
	"crypto/sha3"
	"encoding/hex"
	"slices"
	"testing"

	"pumice/api"
	"pumice/keccak"
	"pumice/sponge"
)

// rate is how many bytes are taken in between two permutations.
const rate = 136

// none is the fingerprint of no bytes, as the standard's examples have it.
const none = "a7ffc6f8bf1ed76651c14756a061d662f580ff4de43b49fa82d80a4b80f8434a"

// edges are the lengths around the multiples of the rate.
var edges = []int{0, 1, 134, 135, 136, 137, 138, 270, 271, 272, 273, 274, 407, 408, 409, 543, 544, 545}

// pattern returns n bytes that differ from their neighbours.
func pattern(n int) []byte {
	b := make([]byte, n)
	for i := range b {
		b[i] = byte(i*7 + i/256 + n + 1)
	}
	return b
}

// want returns the fingerprint of b, worked out by other means than the package's.
func want(b []byte) api.Sum {
	return api.Sum(sha3.Sum256(b))
}

// spelt returns the fingerprint that is written in hexadecimal digits.
func spelt(t *testing.T, digits string) api.Sum {
	t.Helper()
	b, err := hex.DecodeString(digits)
	if err != nil || len(b) != 32 {
		t.Fatalf("%s is no fingerprint", digits)
	}
	return api.Sum(b)
}

func checkSum(t *testing.T, sum api.Sum, parts ...[]byte) {
	t.Helper()
	if got := sponge.Sum(parts...); got != sum {
		b := bytes.Join(parts, nil)
		t.Errorf("Sum of %d parts, %d bytes %.20x = %x, want %x", len(parts), len(b), b, got, sum)
	}
}

// checkState checks that the bytes written to a state are those of b.
func checkState(t *testing.T, s *sponge.State, b []byte) {
	t.Helper()
	if got := s.Sum(); got != want(b) {
		t.Errorf("the state's Sum of %d bytes %.20x = %x, want %x", len(b), b, got, want(b))
	}
}

// written returns a new state to which the parts were written.
func written(parts ...[]byte) *sponge.State {
	s := sponge.New()
	for _, part := range parts {
		s.Write(part)
	}
	return s
}

// known are fingerprints that the standard's authors published.
func known() []struct {
	b   []byte
	sum string
} {
	return []struct {
		b   []byte
		sum string
	}{
		{nil, none},
		{[]byte("abc"), "3a985da74fe225b2045c172d6bd390bd855f086e3e9d525b46bfe24511431532"},
		{[]byte("abcdbcdecdefdefgefghfghighijhijkijkljklmklmnlmnomnopnopq"), "41c0dba2a9d6240849100376a8235e2c82e1b9998a999e21db32dd97496d3376"},
		{[]byte("abcdefghbcdefghicdefghijdefghijkefghijklfghijklmghijklmnhijklmnoijklmnopjklmnopqklmnopqrlmnopqrsmnopqrstnopqrstu"), "916f6061fe879741ca6469b43971dfdb28b1a32dc36cb3254e812be27aad1d18"},
		{bytes.Repeat([]byte{0xA3}, 200), "79f38adec5c20307a98ef76e8324afbfd46cfd81b22e3973c65fa1bd9de31787"},
		{bytes.Repeat([]byte("a"), 1000000), "5c8875ae474a3634ba4fd55ec85bffd661f32aca75c6d699d0cdcb6c115891c1"},
	}
}

// P4.1

func TestSumOfKnownBytes(t *testing.T) {
	for _, x := range known() {
		checkSum(t, spelt(t, x.sum), x.b)
	}
}

func TestSumOfTheExamples(t *testing.T) {
	for _, x := range []struct {
		b     string
		begin [4]byte
	}{
		{"", [4]byte{167, 255, 198, 248}},
		{"abc", [4]byte{58, 152, 93, 167}},
	} {
		if got := sponge.Sum([]byte(x.b)); [4]byte(got[:4]) != x.begin {
			t.Errorf("Sum(%q) begins with %v, want %v", x.b, got[:4], x.begin)
		}
	}
}

func TestSumOfNoBytes(t *testing.T) {
	sum := spelt(t, none)
	checkSum(t, sum)
	checkSum(t, sum, [][]byte{}...)
	checkSum(t, sum, nil)
	checkSum(t, sum, []byte{})
	checkSum(t, sum, nil, nil, []byte{}, nil)
	checkSum(t, sum, make([][]byte, 300)...)
	var parts [][]byte
	checkSum(t, sum, parts...)
}

func TestSumOfManyLengths(t *testing.T) {
	for n := range 5*rate + 3 {
		for _, b := range [][]byte{pattern(n), make([]byte, n), bytes.Repeat([]byte{255}, n), bytes.Repeat([]byte{6}, n), bytes.Repeat([]byte{128}, n)} {
			checkSum(t, want(b), b)
		}
	}
}

func TestSumOfLongBytes(t *testing.T) {
	for _, n := range []int{4096, 65535, 65536, 65537, 100*rate - 1, 100 * rate, 100*rate + 1, 200000} {
		checkSum(t, want(pattern(n)), pattern(n))
	}
}

func TestSumOfEachByte(t *testing.T) {
	for c := range 256 {
		for _, n := range edges[1:] {
			b := make([]byte, n)
			b[n-1] = byte(c)
			checkSum(t, want(b), b)
		}
	}
}

func TestSumOfEachBit(t *testing.T) {
	for _, n := range []int{1, 8, 135, 136, 137, 273} {
		for bit := range 8 * n {
			b := make([]byte, n)
			b[bit/8] = 1 << (bit % 8)
			checkSum(t, want(b), b)
		}
	}
}

// padded returns b with its padding: by the least number of bytes that reaches a multiple of the rate.
func padded(b []byte) []byte {
	p := append(bytes.Clone(b), 6)
	for len(p)%rate != 0 {
		p = append(p, 0)
	}
	p[len(p)-1] ^= 128
	return p
}

// absorbed returns the bytes at the front of the state that takes in bytes, of a multiple of the rate.
func absorbed(p []byte) api.Sum {
	var s api.Lanes
	for ; len(p) > 0; p = p[rate:] {
		for i := range 17 {
			for j := range 8 {
				s[i] ^= uint64(p[8*i+j]) << (8 * j)
			}
		}
		s = keccak.Permute(s)
	}
	var sum api.Sum
	for i := range 32 {
		sum[i] = byte(s[i/8] >> (8 * (i % 8)))
	}
	return sum
}

func TestSumIsThatOfThePaddedBytes(t *testing.T) {
	for n := range 3*rate + 3 {
		p := padded(pattern(n))
		if len(p) != (n/rate+1)*rate {
			t.Fatalf("%d bytes are padded to %d", n, len(p))
		}
		checkSum(t, absorbed(p), pattern(n))
	}
	// One byte is both ends of the padding.
	if p := padded(pattern(rate - 1)); p[rate-1] != 134 {
		t.Errorf("the padding of %d bytes is %d", rate-1, p[rate-1])
	}
}

func TestBytesLikeThePaddingCount(t *testing.T) {
	for _, n := range edges {
		b := pattern(n)
		p := padded(b)
		sums := map[api.Sum]int{sponge.Sum(b): n}
		for end := n + 1; end <= len(p); end++ {
			checkSum(t, want(p[:end]), p[:end])
			sum := sponge.Sum(p[:end])
			if other, ok := sums[sum]; ok {
				t.Errorf("%d and %d bytes of %d that are padded have the same sum", other, end, n)
			}
			sums[sum] = end
		}
	}
}

// P4.2

func TestNewStateHasNoBytes(t *testing.T) {
	s := sponge.New()
	if s == nil {
		t.Fatal("New() is nil")
	}
	for range 3 {
		if got := s.Sum(); got != spelt(t, none) {
			t.Errorf("the Sum of no bytes is %x", got)
		}
	}
	if sponge.New() == s {
		t.Error("New() is the same state again")
	}
}

func TestWriteOfNoBytes(t *testing.T) {
	s := sponge.New()
	for _, b := range [][]byte{nil, {}, pattern(5)[:0]} {
		s.Write(b)
		checkState(t, s, nil)
	}
	for _, n := range edges {
		s := written(pattern(n))
		s.Write(nil)
		s.Write([]byte{})
		checkState(t, s, pattern(n))
	}
}

func TestStateOfKnownBytes(t *testing.T) {
	for _, x := range known() {
		if got := written(x.b).Sum(); got != spelt(t, x.sum) {
			t.Errorf("the state's Sum of %d bytes %.20q is %x, want %s", len(x.b), x.b, got, x.sum)
		}
	}
}

func TestWriteAppends(t *testing.T) {
	s := sponge.New()
	var b []byte
	for i := range 60 {
		s.Write(pattern(i))
		b = append(b, pattern(i)...)
		checkState(t, s, b)
	}
}

func TestSumOfAStateByByte(t *testing.T) {
	// The Sum is asked at each length, those next to a multiple of the rate among them.
	b := pattern(5*rate + 3)
	s := sponge.New()
	for n := range b {
		checkState(t, s, b[:n])
		s.Write(b[n : n+1])
	}
	checkState(t, s, b)
}

func TestSumLeavesTheStateUnchanged(t *testing.T) {
	for _, n := range edges {
		for _, more := range edges {
			b := pattern(n + more)
			s := written(b[:n])
			for range 3 {
				checkState(t, s, b[:n])
			}
			s.Write(b[n:])
			for range 3 {
				checkState(t, s, b)
			}
			s.Write(b)
			checkState(t, s, append(bytes.Clone(b), b...))
		}
	}
}

func TestNilState(t *testing.T) {
	var s *sponge.State
	for _, b := range [][]byte{nil, {}, {0}, []byte("abc"), pattern(135), pattern(136), pattern(1000)} {
		s.Write(b)
		if s != nil {
			t.Fatalf("the nil state became %v", s)
		}
		if got := s.Sum(); got != spelt(t, none) {
			t.Errorf("the nil state's Sum after %d bytes is %x", len(b), got)
		}
	}
	// Nor does it get in the way of others.
	checkState(t, sponge.New(), nil)
	checkSum(t, want([]byte("abc")), []byte("abc"))
}

// P4.3

// checkParts checks that parts have the fingerprint of all their bytes: as parts, as Writes, and as Writes with a Sum after each.
func checkParts(t *testing.T, parts ...[]byte) {
	t.Helper()
	all := bytes.Join(parts, nil)
	checkSum(t, want(all), parts...)
	checkState(t, written(parts...), all)
	s := sponge.New()
	var b []byte
	for _, part := range parts {
		s.Write(part)
		b = append(b, part...)
		checkState(t, s, b)
	}
}

func TestBytesInTwoParts(t *testing.T) {
	for _, n := range edges {
		b := pattern(n)
		for i := range n + 1 {
			checkSum(t, want(b), b[:i], b[i:])
			checkState(t, written(b[:i], b[i:]), b)
		}
	}
}

func TestBytesInThreeParts(t *testing.T) {
	for _, b := range [][]byte{nil, []byte("abc"), pattern(20)} {
		for i := range len(b) + 1 {
			for j := range i + 1 {
				checkParts(t, b[:j], b[j:i], b[i:])
			}
		}
	}
	b := pattern(700)
	for _, i := range edges {
		for _, j := range edges {
			if j <= i {
				checkParts(t, b[:j], b[j:i], b[i:])
			}
		}
	}
}

func TestBytesInPartsOfOneLength(t *testing.T) {
	b := pattern(5*rate + 1)
	for n := 1; n <= len(b); n++ {
		parts := slices.Collect(slices.Chunk(b, n))
		checkSum(t, want(b), parts...)
		checkState(t, written(parts...), b)
	}
	for _, n := range []int{1, 7, 8, 135, 136, 137, 272} {
		checkParts(t, slices.Collect(slices.Chunk(b, n))...)
	}
}

func TestPartsWithEmptyOnesAmongThem(t *testing.T) {
	for _, n := range edges {
		b := pattern(n + 2)
		checkParts(t, nil, b[:1], nil, []byte{}, b[1:n+1], nil, b[n+1:], []byte{})
	}
}

func TestPartsOfGrowingLengths(t *testing.T) {
	for from := range 12 {
		var parts [][]byte
		for i := range 30 {
			parts = append(parts, pattern(i*i%(150+from)))
		}
		checkParts(t, parts...)
	}
}

func TestWhereThePartsEndDoesNotCount(t *testing.T) {
	checkParts(t, []byte("ab"), []byte("c"))
	checkParts(t, []byte("a"), []byte("bc"))
	// The order counts.
	if sponge.Sum([]byte("ab"), []byte("c")) == sponge.Sum([]byte("c"), []byte("ab")) {
		t.Error("parts the other way round have the same sum")
	}
}

func TestStatesByTurns(t *testing.T) {
	const many = 5
	var states [many]*sponge.State
	var all [many][]byte
	for i := range states {
		states[i] = sponge.New()
	}
	for turn := range 100 {
		for i, s := range states {
			b := pattern((turn*(i+1) + 31*i) % 140)
			s.Write(b)
			all[i] = append(all[i], b...)
		}
		asked := turn % many
		checkState(t, states[asked], all[asked])
		checkSum(t, want(all[asked][:turn]), all[asked][:turn])
	}
	for i, s := range states {
		checkState(t, s, all[i])
	}
}

func TestWritesToOneStateAreNotTheOthers(t *testing.T) {
	for _, n := range edges {
		b := pattern(n)
		one, other := written(b), written(b)
		one.Write([]byte("more"))
		checkState(t, other, b)
		other.Write(pattern(rate))
		checkState(t, one, append(bytes.Clone(b), "more"...))
		checkState(t, other, append(bytes.Clone(b), pattern(rate)...))
		checkState(t, sponge.New(), nil)
	}
}

// Rules 4 to 6 of the document

// guarded returns the bytes as a part of a greater array, and that array.
func guarded(s []byte) (part, array []byte) {
	array = append([]byte("<<<"), s...)
	array = append(array, ">>>>>>>>"...)
	return array[3 : 3+len(s) : len(array)], array
}

func TestBytesHandedInAreNotChanged(t *testing.T) {
	for _, n := range edges {
		part, array := guarded(pattern(n))
		before := bytes.Clone(array)
		checkSum(t, want(part), part)
		checkSum(t, want(append(bytes.Clone(part), part...)), part, part)
		s := written(part)
		s.Sum()
		s.Write(part)
		s.Sum()
		if !bytes.Equal(array, before) {
			t.Errorf("%d bytes became %q", n, array)
		}
	}
}

func TestTheListOfPartsIsNotChanged(t *testing.T) {
	first, second, third, beyond := pattern(3), pattern(rate), []byte{}, []byte("beyond")
	list := [][]byte{first, nil, second, third, beyond}
	sponge.Sum(list[:4]...)
	for i, part := range [][]byte{first, nil, second, third, beyond} {
		if len(list[i]) != len(part) || len(part) > 0 && &list[i][0] != &part[0] || (list[i] == nil) != (part == nil) {
			t.Errorf("part %d became %.20x", i, list[i])
		}
	}
	checkSum(t, want(append(pattern(3), pattern(rate)...)), list[:4]...)
}

func TestBeyondTheLengthIsNotRead(t *testing.T) {
	array := pattern(300)
	for n := range array {
		alone := bytes.Clone(array[:n])
		checkSum(t, want(alone), array[:n])
		checkSum(t, want(append(alone, 1, 2)), array[:n], []byte{1, 2})
		checkState(t, written(array[:n]), alone)
	}
}

func TestBytesHandedInAreNotKept(t *testing.T) {
	for _, n := range edges {
		part, array := guarded(pattern(n))
		s := written(part)
		for i := range array {
			array[i] = 'x'
		}
		checkState(t, s, pattern(n))
		s.Write([]byte("more"))
		checkState(t, s, append(pattern(n), "more"...))
	}
}

func TestOneBufferForAllWrites(t *testing.T) {
	buffer := make([]byte, 50)
	s := sponge.New()
	var b []byte
	for i := range 40 {
		n := copy(buffer, pattern(10+i))
		s.Write(buffer[:n])
		b = append(b, buffer[:n]...)
	}
	clear(buffer)
	checkState(t, s, b)
}

func TestSumsAreTheCallersOwn(t *testing.T) {
	for _, n := range edges {
		b := pattern(n)
		s := written(b)
		first, second, whole := s.Sum(), s.Sum(), sponge.Sum(b)
		for i := range first {
			first[i] = ^first[i]
		}
		if second != want(b) || whole != want(b) {
			t.Errorf("other results became %x and %x", second, whole)
		}
		checkState(t, s, b)
		checkSum(t, want(b), b)
	}
}

func TestSameCallsSameResults(t *testing.T) {
	kept := written(pattern(100))
	for n := range 300 {
		sponge.Sum(pattern(n), pattern(2))
		written(pattern(n)).Sum()
		checkState(t, kept, pattern(100))
		checkSum(t, spelt(t, none))
		checkSum(t, want(pattern(200)), pattern(200))
	}
}
