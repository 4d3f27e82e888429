package keccak_test

import (
	"bytes"
	"crypto/sha3"
	"encoding/binary"
	"math"
	"math/bits"
	"testing"

	"pumice/api"
	"pumice/keccak"
)

// turns are the offsets as the standard lists them, by x and then by y.
var turns = [5][5]int{
	{0, 36, 3, 41, 18},
	{1, 44, 10, 45, 2},
	{62, 6, 43, 15, 61},
	{28, 55, 25, 21, 56},
	{27, 20, 39, 8, 14},
}

// marks are the constants of the 24 rounds as the standard's permutation has them.
var marks = [24]uint64{
	0x0000000000000001, 0x0000000000008082, 0x800000000000808A, 0x8000000080008000,
	0x000000000000808B, 0x0000000080000001, 0x8000000080008081, 0x8000000000008009,
	0x000000000000008A, 0x0000000000000088, 0x0000000080008009, 0x000000008000000A,
	0x000000008000808B, 0x800000000000008B, 0x8000000000008089, 0x8000000000008003,
	0x8000000000008002, 0x8000000000000080, 0x000000000000800A, 0x800000008000000A,
	0x8000000080008081, 0x8000000000008080, 0x0000000080000001, 0x8000000080008008,
}

// once and twice are the state of zeros after one and two permutations, as the authors of Keccak published them.
var (
	once = api.Lanes{
		0xF1258F7940E1DDE7, 0x84D5CCF933C0478A, 0xD598261EA65AA9EE, 0xBD1547306F80494D, 0x8B284E056253D057,
		0xFF97A42D7F8E6FD4, 0x90FEE5A0A44647C4, 0x8C5BDA0CD6192E76, 0xAD30A6F71B19059C, 0x30935AB7D08FFC64,
		0xEB5AA93F2317D635, 0xA9A6E6260D712103, 0x81A57C16DBCF555F, 0x43B831CD0347C826, 0x01F22F1A11A5569F,
		0x05E5635A21D9AE61, 0x64BEFEF28CC970F2, 0x613670957BC46611, 0xB87C5A554FD00ECB, 0x8C3EE88A1CCF32C8,
		0x940C7922AE3A2614, 0x1841F924A2C509E4, 0x16F53526E70465C2, 0x75F644E97F30A13B, 0xEAF1FF7B5CECA249,
	}
	twice = api.Lanes{
		0x2D5C954DF96ECB3C, 0x6A332CD07057B56D, 0x093D8D1270D76B6C, 0x8A20D9B25569D094, 0x4F9C4F99E5E7F156,
		0xF957B9A2DA65FB38, 0x85773DAE1275AF0D, 0xFAF4F247C3D810F7, 0x1F1B9EE6F79A8759, 0xE4FECC0FEE98B425,
		0x68CE61B6B9CE68A1, 0xDEEA66C4BA8F974F, 0x33C43D836EAFB1F5, 0xE00654042719DBD9, 0x7CF8A9F009831265,
		0xFD5449A6BF174743, 0x97DDAD33D8994B40, 0x48EAD5FC5D0BE774, 0xE3B8C8EE55B7B03C, 0x91A0226E649E42E9,
		0x900E3129E7BADD7B, 0x202A9EC5FAA3CCE8, 0x5B3402464E1C3DB6, 0x609F4E62A44C1059, 0x20D06CD26A8FBF5C,
	}
)

// someRounds are rounds of all kinds: those of the permutation, those around the end of the marks' period, and negative ones.
func someRounds() []int {
	l := []int{-1, -2, -255, -256, math.MinInt, 100, 253, 254, 255, 256, 257, 509, 510, 511, math.MaxInt32, math.MaxInt - 1, math.MaxInt}
	for round := range 25 {
		l = append(l, round)
	}
	return l
}

// alike returns the state whose words are all the same.
func alike(word uint64) api.Lanes {
	var s api.Lanes
	for i := range s {
		s[i] = word
	}
	return s
}

// one returns the state in which a single bit is 1.
func one(bit int) api.Lanes {
	var s api.Lanes
	s[bit/64] = 1 << (bit % 64)
	return s
}

// mixed returns a state whose words differ in about half of their bits.
func mixed(n uint64) api.Lanes {
	var s api.Lanes
	for i := range s {
		n = n*6364136223846793005 + 1442695040888963407
		s[i] = n ^ n>>29
	}
	return s
}

// states returns states of all kinds: zeros, all bits, each single bit, all bits but one, words alike, rows and columns of bits, and mixed ones.
func states() []api.Lanes {
	l := []api.Lanes{{}, alike(math.MaxUint64), alike(0x5555555555555555), alike(0xAAAAAAAAAAAAAAAA), once, twice}
	for bit := range 1600 {
		s := one(bit)
		l = append(l, s)
		for i := range s {
			s[i] = ^s[i]
		}
		l = append(l, s)
	}
	for n := range 5 {
		var row, column api.Lanes
		for i := range 5 {
			row[i+5*n], column[n+5*i] = math.MaxUint64, math.MaxUint64
		}
		l = append(l, row, column)
	}
	for n := range 100 {
		l = append(l, mixed(uint64(n)))
	}
	return l
}

// cube is a state as single bits, by x, y and z.
type cube [5][5][64]bool

func cubeOf(s api.Lanes) cube {
	var c cube
	for i, word := range s {
		for z := range 64 {
			c[i%5][i/5][z] = word>>z&1 == 1
		}
	}
	return c
}

func (c *cube) lanes() api.Lanes {
	var s api.Lanes
	for i := range s {
		for z := range 64 {
			if c[i%5][i/5][z] {
				s[i] |= 1 << z
			}
		}
	}
	return s
}

// markBits are the lowest bits of the marks' register after each number of steps, worked out bit by bit as the standard has it.
func markBits() [255]bool {
	var l [255]bool
	r := [9]bool{true}
	for t := range l {
		l[t] = r[0]
		copy(r[1:], r[:8])
		r[0] = r[8]
		for _, i := range []int{4, 5, 6} {
			r[i] = r[i] != r[8]
		}
	}
	return l
}

// wantMark returns the mark of a round, from 0 to 254.
func wantMark(round int) uint64 {
	var mark uint64
	l := markBits()
	for j, z := range []int{0, 1, 3, 7, 15, 31, 63} {
		if l[(j+7*round)%255] {
			mark |= 1 << z
		}
	}
	return mark
}

// wantRound returns the state after a round, worked out bit by bit, with the mark given.
func wantRound(s api.Lanes, mark uint64) api.Lanes {
	a := cubeOf(s)
	b := a
	for x := range 5 {
		for y := range 5 {
			for z := range 64 {
				for i := range 5 {
					b[x][y][z] = b[x][y][z] != a[(x+4)%5][i][z] != a[(x+1)%5][i][(z+63)%64]
				}
			}
		}
	}
	for x := range 5 {
		for y := range 5 {
			for z := range 64 {
				a[y][(2*x+3*y)%5][(z+turns[x][y])%64] = b[x][y][z]
			}
		}
	}
	for x := range 5 {
		for y := range 5 {
			for z := range 64 {
				b[x][y][z] = a[x][y][z] != (!a[(x+1)%5][y][z] && a[(x+2)%5][y][z])
			}
		}
	}
	s = b.lanes()
	s[0] ^= mark
	return s
}

// wantPermute returns the state after the 24 rounds, worked out bit by bit.
func wantPermute(s api.Lanes) api.Lanes {
	for _, mark := range marks {
		s = wantRound(s, mark)
	}
	return s
}

func checkTurn(t *testing.T, x, y, want int) {
	t.Helper()
	if got := keccak.Turn(x, y); got != want {
		t.Errorf("Turn(%d, %d) = %d, want %d", x, y, got, want)
	}
}

func checkMark(t *testing.T, round int, want uint64) {
	t.Helper()
	if got := keccak.Mark(round); got != want {
		t.Errorf("Mark(%d) = %X, want %X", round, got, want)
	}
}

func checkRound(t *testing.T, s api.Lanes, round int, want api.Lanes) {
	t.Helper()
	if got := keccak.Round(s, round); got != want {
		t.Errorf("Round(%X, %d) = %X, want %X", s, round, got, want)
	}
}

func checkPermute(t *testing.T, s, want api.Lanes) {
	t.Helper()
	if got := keccak.Permute(s); got != want {
		t.Errorf("Permute(%X) = %X, want %X", s, got, want)
	}
}

// P3.1

func TestTurnOfEachWord(t *testing.T) {
	for x := range 5 {
		for y := range 5 {
			checkTurn(t, x, y, turns[x][y])
		}
	}
	checkTurn(t, 1, 0, 1)
	checkTurn(t, 0, 2, 3)
	checkTurn(t, 0, 0, 0)
}

func TestTurnsAlongTheirPath(t *testing.T) {
	x, y := 1, 0
	for i := range 24 {
		checkTurn(t, x, y, (i+1)*(i+2)/2%64)
		x, y = y, (2*x+3*y)%5
	}
	if x != 1 || y != 0 {
		t.Errorf("the path ends at %d, %d", x, y)
	}
}

func TestTurnTakesCoordinatesModulo5(t *testing.T) {
	for x := -20; x < 25; x++ {
		for y := -20; y < 25; y++ {
			checkTurn(t, x, y, turns[(x+20)%5][(y+20)%5])
		}
	}
	checkTurn(t, -4, 5, 1)
	checkTurn(t, -1, -1, 14)
	checkTurn(t, 5, 4, 18)
}

func TestTurnOfGreatCoordinates(t *testing.T) {
	// Both ends of the 32 bits and of the 64 bits are 2 modulo 5.
	for _, great := range []int{math.MinInt, math.MinInt32, math.MaxInt32, math.MaxInt} {
		for i := range 5 {
			checkTurn(t, great, i, turns[2][i])
			checkTurn(t, i, great, turns[i][2])
		}
		checkTurn(t, great, math.MinInt, turns[2][2])
		checkTurn(t, great, math.MaxInt, turns[2][2])
	}
	checkTurn(t, math.MinInt+1, math.MinInt+2, turns[3][4])
	checkTurn(t, math.MinInt+3, math.MaxInt-1, turns[0][1])
	checkTurn(t, math.MaxInt-2, math.MaxInt-3, turns[0][4])
}

// P3.2

func TestMarksOfThePermutation(t *testing.T) {
	for round, mark := range marks {
		checkMark(t, round, mark)
	}
	checkMark(t, 0, 1)
	checkMark(t, 1, 0x8082)
}

func TestMarksOfAllRounds(t *testing.T) {
	for round := range 255 {
		checkMark(t, round, wantMark(round))
	}
}

func TestMarkTakesRoundsModulo255(t *testing.T) {
	for round := range 255 {
		for _, times := range []int{1, 2, 3, 1000, 8421503} {
			checkMark(t, round+255*times, wantMark(round))
		}
	}
	checkMark(t, 254, wantMark(254))
	checkMark(t, 255, 1)
	checkMark(t, 256, 0x8082)
}

func TestMarkOfGreatRounds(t *testing.T) {
	// The greatest numbers of 32 and of 64 bits are 127 modulo 255.
	for i := range 255 {
		checkMark(t, math.MaxInt-i, wantMark((127+255-i)%255))
		checkMark(t, math.MaxInt32-i, wantMark((127+255-i)%255))
	}
	// Of seven times this round, 64 bits would hold no more than 5.
	checkMark(t, math.MaxInt/7*2+1, wantMark((math.MaxInt/7*2+1)%255))
}

func TestMarkOfNegativeRounds(t *testing.T) {
	for round := -600; round < 0; round++ {
		checkMark(t, round, 0)
	}
	for i := range 600 {
		checkMark(t, math.MinInt+i, 0)
		checkMark(t, math.MinInt32+i, 0)
	}
}

func TestMarksHaveTheirBitsAlone(t *testing.T) {
	const may = 1<<0 | 1<<1 | 1<<3 | 1<<7 | 1<<15 | 1<<31 | 1<<63
	for _, round := range someRounds() {
		if mark := keccak.Mark(round); mark&^may != 0 {
			t.Errorf("Mark(%d) = %X", round, mark)
		}
	}
}

// P3.3

func TestRoundOfZerosIsTheMark(t *testing.T) {
	for _, round := range someRounds() {
		checkRound(t, api.Lanes{}, round, api.Lanes{keccak.Mark(round)})
	}
	checkRound(t, api.Lanes{}, 1, api.Lanes{0x8082})
	checkRound(t, api.Lanes{}, -1, api.Lanes{})
}

func TestRoundOfAllBits(t *testing.T) {
	for _, round := range someRounds() {
		want := alike(math.MaxUint64)
		want[0] ^= keccak.Mark(round)
		checkRound(t, alike(math.MaxUint64), round, want)
	}
}

func TestRoundOfManyStates(t *testing.T) {
	for i, s := range states() {
		round := i % 255
		checkRound(t, s, round, wantRound(s, wantMark(round)))
	}
}

func TestRoundOfManyRounds(t *testing.T) {
	for _, s := range []api.Lanes{{}, alike(math.MaxUint64), one(0), one(1599), once, mixed(7)} {
		for round := range 255 {
			checkRound(t, s, round, wantRound(s, wantMark(round)))
		}
	}
}

func TestRoundOfRoundsWithoutAMarkOfTheirOwn(t *testing.T) {
	for _, s := range []api.Lanes{{}, alike(math.MaxUint64), one(0), one(1599), once, mixed(7)} {
		for _, round := range []int{-1, -2, -254, -255, -256, math.MinInt, math.MinInt + 1} {
			checkRound(t, s, round, wantRound(s, 0))
		}
		for _, round := range []int{0, 1, 23, 127, 254} {
			checkRound(t, s, round+255, wantRound(s, wantMark(round)))
			checkRound(t, s, round+255*8421503, wantRound(s, wantMark(round)))
		}
		checkRound(t, s, math.MaxInt, wantRound(s, wantMark(127)))
		checkRound(t, s, math.MaxInt-127, wantRound(s, 1))
	}
}

func TestRoundHasItsMarkInTheFirstWordAlone(t *testing.T) {
	for _, s := range states()[:200] {
		bare := keccak.Round(s, -1)
		for _, round := range someRounds() {
			want := bare
			want[0] ^= keccak.Mark(round)
			checkRound(t, s, round, want)
		}
	}
}

// P3.4

func TestPermuteOfZeros(t *testing.T) {
	checkPermute(t, api.Lanes{}, once)
	checkPermute(t, once, twice)
	if once[0] != 0xF1258F7940E1DDE7 {
		t.Errorf("the first word is %X", once[0])
	}
}

func TestPermuteIsTheRounds0To23(t *testing.T) {
	for _, s := range states() {
		want := s
		for round := range 24 {
			want = keccak.Round(want, round)
		}
		checkPermute(t, s, want)
	}
}

func TestPermuteOfManyStates(t *testing.T) {
	l := []api.Lanes{{}, alike(math.MaxUint64), alike(0x5555555555555555), once, twice}
	for bit := 0; bit < 1600; bit += 13 {
		l = append(l, one(bit))
	}
	for n := range 50 {
		l = append(l, mixed(uint64(n)))
	}
	for _, s := range l {
		checkPermute(t, s, wantPermute(s))
	}
}

// absorbed returns the state of a short message in front of its permutation: the message, the bits that end it, and the last bit of the rate.
func absorbed(message []byte, end byte, rate int) api.Lanes {
	b := make([]byte, 200)
	copy(b, message)
	b[len(message)] ^= end
	b[rate-1] ^= 128
	var s api.Lanes
	for i := range s {
		s[i] = binary.LittleEndian.Uint64(b[8*i:])
	}
	return s
}

// squeezed returns the first bytes of a state, the least significant one of each word first.
func squeezed(s api.Lanes, n int) []byte {
	var b []byte
	for _, word := range s {
		b = binary.LittleEndian.AppendUint64(b, word)
	}
	return b[:n]
}

// text returns n bytes that differ from their neighbours.
func text(n int) []byte {
	b := make([]byte, n)
	for i := range b {
		b[i] = byte(i*7 + n + 1)
	}
	return b
}

func TestPermuteIsThatOfSHA3(t *testing.T) {
	for n := range 136 {
		want := sha3.Sum256(text(n))
		if got := squeezed(keccak.Permute(absorbed(text(n), 6, 136)), 32); !bytes.Equal(got, want[:]) {
			t.Errorf("SHA3-256 of %d bytes is %x, want %x", n, got, want)
		}
	}
	for n := range 168 {
		want := sha3.SumSHAKE128(text(n), 168)
		if got := squeezed(keccak.Permute(absorbed(text(n), 31, 168)), 168); !bytes.Equal(got, want) {
			t.Errorf("SHAKE128 of %d bytes is %x, want %x", n, got, want)
		}
	}
}

// P3.5

// before returns the state that leads to s by a round without a mark: its five steps are taken back, the last one first.
func before(s api.Lanes) api.Lanes {
	s = uncombined(s)
	var b api.Lanes
	for i := range b {
		x, y := i%5, i/5
		b[i] = bits.RotateLeft64(s[y+5*((2*x+3*y)%5)], -turns[x][y])
	}
	return unspread(b)
}

// uncombined takes the fourth step back, by trying all rows of five bits.
func uncombined(s api.Lanes) api.Lanes {
	var rows [32]uint64
	for row := range uint64(32) {
		rows[row^(^(row>>1|row<<4)&(row>>2|row<<3)&31)] = row
	}
	var b api.Lanes
	for y := range 5 {
		for z := range 64 {
			var row uint64
			for x := range 5 {
				row |= s[x+5*y] >> z & 1 << x
			}
			for x := range 5 {
				b[x+5*y] |= rows[row] >> x & 1 << z
			}
		}
	}
	return b
}

// unspread takes the first step back: it leads through 192 states and to the first one again.
func unspread(s api.Lanes) api.Lanes {
	for range 191 {
		var p [5]uint64
		for i := range s {
			p[i%5] ^= s[i]
		}
		for i := range s {
			s[i] ^= p[(i+4)%5] ^ bits.RotateLeft64(p[(i+1)%5], 1)
		}
	}
	return s
}

func TestRoundCanBeTakenBack(t *testing.T) {
	for i, s := range states() {
		mark := wantMark(i % 255)
		after := keccak.Round(s, i%255)
		after[0] ^= mark
		if got := before(after); got != s {
			t.Errorf("the state before round %d is %X, was %X", i%255, got, s)
		}

		b := s
		b[0] ^= mark
		checkRound(t, before(b), i%255, s)
	}
}

func TestPermuteCanBeTakenBack(t *testing.T) {
	for _, s := range states()[:300] {
		b := keccak.Permute(s)
		for round := range 24 {
			b[0] ^= marks[23-round]
			b = before(b)
		}
		if b != s {
			t.Errorf("the state before the permutation is %X, was %X", b, s)
		}
	}
}

// neighbours returns the state and those that differ from it in one bit, or in the same bit of two words.
func neighbours(s api.Lanes) []api.Lanes {
	l := []api.Lanes{s}
	for bit := range 1600 {
		n := s
		n[bit/64] ^= 1 << (bit % 64)
		l = append(l, n)
	}
	for i := range 25 {
		for j := range i {
			n := s
			n[i] ^= 1 << (i + j)
			n[j] ^= 1 << (i + j)
			l = append(l, n)
		}
	}
	return l
}

// checkUnlike checks that unlike states have unlike results.
func checkUnlike(t *testing.T, l []api.Lanes, name string, result func(api.Lanes) api.Lanes) {
	t.Helper()
	from := map[api.Lanes]api.Lanes{}
	for _, s := range l {
		r := result(s)
		if other, ok := from[r]; ok && other != s {
			t.Errorf("%s of %X and of %X are %X", name, s, other, r)
		}
		from[r] = s
	}
}

func TestUnlikeStatesHaveUnlikeResults(t *testing.T) {
	for _, l := range [][]api.Lanes{states(), neighbours(api.Lanes{}), neighbours(alike(math.MaxUint64)), neighbours(once), neighbours(mixed(3))} {
		checkUnlike(t, l, "Permute", keccak.Permute)
		for _, round := range []int{math.MinInt, -1, 0, 23, 254, 255, math.MaxInt} {
			checkUnlike(t, l, "Round", func(s api.Lanes) api.Lanes { return keccak.Round(s, round) })
		}
	}
}

// P3.6

func TestNoTurnOccursTwice(t *testing.T) {
	var seen [64]bool
	for x := range 5 {
		for y := range 5 {
			n := keccak.Turn(x, y)
			if n < 0 || n > 63 || seen[n] {
				t.Fatalf("Turn(%d, %d) = %d, which is no offset or is one of another word", x, y, n)
			}
			seen[n] = true
		}
	}
}

// Rules 4 to 6 of the document

func TestStatesThatAreHandedInAreNotChanged(t *testing.T) {
	for _, s := range states()[:300] {
		l := []api.Lanes{mixed(1), s, mixed(2)}
		keccak.Round(l[1], 5)
		keccak.Round(l[1], -1)
		keccak.Permute(l[1])
		if l[0] != mixed(1) || l[1] != s || l[2] != mixed(2) {
			t.Errorf("%X became %X", s, l)
		}
	}
}

func TestResultsAreTheCallersOwn(t *testing.T) {
	for _, s := range states()[:300] {
		round, whole := keccak.Round(s, 5), keccak.Permute(s)
		for _, spoiled := range []api.Lanes{keccak.Round(s, 5), keccak.Permute(s)} {
			for i := range spoiled {
				spoiled[i] = ^spoiled[i]
			}
		}
		checkRound(t, s, 5, round)
		checkPermute(t, s, whole)
	}
}

func TestSameCallsSameResults(t *testing.T) {
	for i, other := range states()[:300] {
		keccak.Turn(i-150, 7*i)
		keccak.Mark(3*i - 50)
		keccak.Round(other, i-50)
		keccak.Permute(other)
		checkTurn(t, i, 2*i, turns[i%5][2*i%5])
		checkMark(t, i%24, marks[i%24])
		checkRound(t, api.Lanes{}, 1, api.Lanes{0x8082})
		checkPermute(t, api.Lanes{}, once)
	}
}
