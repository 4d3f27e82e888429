package pick_test

import (
	"math"
	"math/big"

	"pumice/api"
)

// right, gains, score, better and best are what the chapter says, word by word.
func right(c api.Candidate) bool {
	if c.Pages < 1 || c.Pages > 64 {
		return false
	}
	return c.Live >= 0 && c.Live <= c.Pages
}

func gains(c api.Candidate) bool {
	return right(c) && c.Live != c.Pages
}

// score returns the fraction as a whole, which nothing is rounded off.
func score(c api.Candidate) *big.Rat {
	age := new(big.Int).SetUint64(c.Age)
	if most := new(big.Int).Lsh(big.NewInt(1), 32); age.Cmp(most) > 0 {
		age = most
	}
	up := new(big.Int).Mul(big.NewInt(int64(c.Pages-c.Live)), age.Add(age, big.NewInt(1)))
	return new(big.Rat).SetFrac(up, big.NewInt(int64(c.Live+1)))
}

func better(a, b api.Candidate) bool {
	if !gains(a) {
		return false
	}
	if !gains(b) {
		return true
	}
	switch score(a).Cmp(score(b)) {
	case 1:
		return true
	case 0:
		return a.Seg < b.Seg
	}
	return false
}

func best(l []api.Candidate) int {
	for i, c := range l {
		if gains(c) && !anyBetter(l, c) {
			return i
		}
	}
	return -1
}

func anyBetter(l []api.Candidate, c api.Candidate) bool {
	for _, other := range l {
		if better(other, c) {
			return true
		}
	}
	return false
}

// segs returns numbers of segments, the negative ones first.
func segs() []int {
	return []int{math.MinInt, math.MinInt + 1, math.MinInt32, -256, -2, -1, 0, 1, 2, 255, 256, math.MaxInt32, math.MaxInt - 1, math.MaxInt}
}

// pages returns how many pages a candidate may have, and how many it may not.
func pages() []int {
	return []int{math.MinInt, math.MinInt + 1, math.MinInt32, -64, -1, 0, 1, 2, 3, 8, 32, 63, 64, 65, 66, 128, 256, 257, 1 << 16, 1<<16 + 1, 1 << 31, 1 << 32, 1<<32 + 1, math.MaxInt - 1, math.MaxInt}
}

// lives returns how many pages may be live of n, and how many may not.
func lives(n int) []int {
	return append(pages(), n-2, n-1, n, n+1, n+2, -n)
}

// ages returns ages that count by themselves, and, from 2^32 on, those that don't.
func ages() []uint64 {
	return []uint64{0, 1, 2, 3, 7, 30, 63, 64, 255, 256, 1<<16 - 1, 1 << 16, 1<<31 - 1, 1 << 31, 1<<32 - 2, 1<<32 - 1,
		1 << 32, 1<<32 + 1, 1<<32 + 2, 1 << 33, 1 << 48, 1<<63 - 1, 1 << 63, math.MaxUint64 - 1, math.MaxUint64}
}

// dice yields numbers in no order to speak of, the same ones each time.
type dice uint32

func (d *dice) roll(n int) int {
	*d = *d*1664525 + 1013904223
	return int(*d>>16) % n
}

func choose[T any](d *dice, l []T) T {
	return l[d.roll(len(l))]
}

// candidate returns one that gains, mostly, else any one.
func (d *dice) candidate() api.Candidate {
	c := api.Candidate{Seg: d.roll(7) - 3, Pages: 1 + d.roll(64), Age: uint64(d.roll(80))}
	if d.roll(3) == 0 {
		c.Age = choose(d, ages())
	}
	if d.roll(5) == 0 {
		c.Seg = choose(d, segs())
	}
	if d.roll(8) == 0 {
		c.Pages = choose(d, pages())
		c.Live = choose(d, lives(c.Pages))
		return c
	}
	c.Live = d.roll(c.Pages)
	return c
}

// small returns one of few, so that many have the same score.
func (d *dice) small() api.Candidate {
	return api.Candidate{Seg: d.roll(3), Live: d.roll(5) - 1, Pages: d.roll(4), Age: uint64(d.roll(4))}
}

func (d *dice) list(n int, one func() api.Candidate) []api.Candidate {
	var l []api.Candidate
	for range n {
		l = append(l, one())
	}
	return l
}
