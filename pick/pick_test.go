package pick_test

import (
	"math"
	"slices"
	"testing"

	"pumice/api"
	"pumice/pick"
)

// of returns a candidate of segment 5.
func of(live, pages int, age uint64) api.Candidate {
	return api.Candidate{Seg: 5, Live: live, Pages: pages, Age: age}
}

// at returns the candidate as one of another segment.
func at(seg int, c api.Candidate) api.Candidate {
	c.Seg = seg
	return c
}

func checkRight(t *testing.T, c api.Candidate, want bool) {
	t.Helper()
	if got := pick.Right(c); got != want {
		t.Errorf("Right(%+v) returns %t", c, got)
	}
}

func checkGains(t *testing.T, c api.Candidate, want bool) {
	t.Helper()
	if got := pick.Gains(c); got != want {
		t.Errorf("Gains(%+v) returns %t", c, got)
	}
}

func checkBetter(t *testing.T, a, b api.Candidate, want bool) {
	t.Helper()
	if got := pick.Better(a, b); got != want {
		t.Errorf("Better(%+v, %+v) returns %t", a, b, got)
	}
}

// checkOrder checks that each one is better than those behind it, and none than those ahead of it or itself.
func checkOrder(t *testing.T, l ...api.Candidate) {
	t.Helper()
	for i, a := range l {
		for k, b := range l {
			checkBetter(t, a, b, i < k)
		}
	}
}

// checkSame checks that none is better than another one.
func checkSame(t *testing.T, l ...api.Candidate) {
	t.Helper()
	for _, a := range l {
		for _, b := range l {
			checkBetter(t, a, b, false)
		}
	}
}

// checkEqual checks that the scores are equal, by holding them against each other with any two segments.
func checkEqual(t *testing.T, l ...api.Candidate) {
	t.Helper()
	checkSame(t, l...)
	for _, a := range l {
		for _, b := range l {
			checkOrder(t, at(4, a), at(5, b))
			checkOrder(t, at(-1, a), at(0, b))
		}
	}
}

func checkBest(t *testing.T, want int, l ...api.Candidate) {
	t.Helper()
	if got := pick.Best(l); got != want {
		t.Errorf("Best(%+v) returns %d, not %d", l, got, want)
	}
}

// everySort calls f for candidates of all pages, live pages, ages and segments that the tables have.
func everySort(f func(c api.Candidate)) {
	for _, n := range pages() {
		for _, live := range lives(n) {
			for _, age := range ages() {
				for _, seg := range segs() {
					f(api.Candidate{Seg: seg, Live: live, Pages: n, Age: age})
				}
			}
		}
	}
}

// useless returns candidates that gain nothing: some that are not valid, and some that are full.
func useless() []api.Candidate {
	return []api.Candidate{
		{}, of(0, 0, 9), of(0, -1, 9), of(-1, -1, 9), of(-1, 0, 9), of(-1, 8, 9), of(9, 8, 9), of(0, 65, 9), of(64, 65, 9), of(-1, 64, 9), of(65, 64, 9),
		of(0, math.MaxInt, 9), of(0, math.MinInt, 9), of(math.MinInt, 8, 9), of(math.MaxInt, 8, 9),
		of(math.MinInt, math.MaxInt, 9), of(math.MaxInt, math.MinInt, 9), of(math.MinInt, math.MinInt, 9), of(math.MaxInt, math.MaxInt, 9),
		of(1, 1, 9), of(8, 8, 9), of(63, 63, 9), of(64, 64, 9), of(8, 8, math.MaxUint64), of(64, 64, 1<<32), at(math.MinInt, of(8, 8, 9)),
	}
}

// P17.1: Right

func TestRightOfTheEdges(t *testing.T) {
	if api.MaxPages != 64 {
		t.Fatalf("MaxPages is %d", api.MaxPages)
	}
	for _, n := range []int{math.MinInt, -1, 0, 65, math.MaxInt} {
		for _, live := range []int{math.MinInt, -1, 0, 1, n - 1, n, n + 1, math.MaxInt} {
			checkRight(t, of(live, n, 3), false)
		}
	}
	for _, n := range []int{1, 8, 64} {
		for _, live := range []int{math.MinInt, -1, n + 1, math.MaxInt} {
			checkRight(t, of(live, n, 3), false)
		}
		for _, live := range []int{0, 1, n - 1, n} {
			checkRight(t, of(live, n, 3), true)
		}
	}
}

func TestRightOfEachPagesAndLive(t *testing.T) {
	many := 0
	for n := -70; n <= 140; n++ {
		for live := -140; live <= 140; live++ {
			c := of(live, n, 0)
			checkRight(t, c, right(c))
			if pick.Right(c) {
				many++
			}
		}
	}
	// 2 with one page, 3 with two of them, and so on.
	if many != 2144 {
		t.Errorf("%d candidates are valid", many)
	}
}

func TestRightOfAnySort(t *testing.T) {
	everySort(func(c api.Candidate) { checkRight(t, c, right(c)) })
}

// P17.1: Gains

func TestGainsOfTheEdges(t *testing.T) {
	for _, n := range []int{1, 2, 8, 63, 64} {
		checkGains(t, of(0, n, 0), true)
		checkGains(t, of(n-1, n, 0), true)
		checkGains(t, of(n, n, 0), false)
		checkGains(t, of(n+1, n, 0), false)
		checkGains(t, of(-1, n, 0), false)
	}
	for _, c := range useless() {
		checkGains(t, c, false)
	}
}

func TestGainsOfEachPagesAndLive(t *testing.T) {
	many := 0
	for n := -70; n <= 140; n++ {
		for live := -140; live <= 140; live++ {
			c := of(live, n, 0)
			checkGains(t, c, gains(c))
			if pick.Gains(c) {
				many++
			}
		}
	}
	if many != 2080 {
		t.Errorf("%d candidates gain", many)
	}
}

func TestGainsOfAnySort(t *testing.T) {
	everySort(func(c api.Candidate) { checkGains(t, c, gains(c)) })
}

// P17.1: the score

func TestScores(t *testing.T) {
	// 64, 62/7, 8, 8/2, 3/2, 4/5, 1/8, 1/64.
	checkOrder(t, of(0, 64, 0), of(6, 8, 30), of(0, 8, 0), of(1, 2, 7), of(1, 4, 0), of(4, 8, 0), of(7, 8, 0), of(63, 64, 0))
}

func TestEqualScores(t *testing.T) {
	// 8: 8/1, 4*2/1, 2*4/1, 1*8/1, 16/2, 24/3, 7*8/7.
	checkEqual(t, of(0, 8, 0), of(0, 4, 1), of(0, 2, 3), of(0, 1, 7), of(1, 17, 0), of(1, 2, 15), of(2, 26, 0), of(6, 13, 7))
	// 1: 1/1, 2/2, 1*2/2, 32/32, 1*64/64.
	checkEqual(t, of(0, 1, 0), of(1, 3, 0), of(1, 2, 1), of(31, 63, 0), of(63, 64, 63))
	// 1/3: 1/3, 2/6, 5/15.
	checkEqual(t, of(2, 3, 0), of(5, 7, 0), of(14, 19, 0))
	// 2^32: 2^32/1, 2*2^31/1, 64*2^26/1, 64*2^31/32.
	checkEqual(t, of(0, 1, 1<<32-1), of(0, 2, 1<<31-1), of(0, 64, 1<<26-1), of(15, 31, 1<<32-1))
	// 2^32 + 1: 1*(2^32+1)/1, 2*(2^32+1)/2, 32*(2^32+1)/32.
	checkEqual(t, of(0, 1, 1<<32), of(1, 3, 1<<33), of(31, 63, math.MaxUint64))
}

func TestScoresThatDifferInLittle(t *testing.T) {
	// As whole numbers, each two of these are the same: 62/7 and 8, 1/2 and 1/3, 9/2 and 13/3.
	checkOrder(t, of(6, 8, 30), of(0, 8, 0))
	checkOrder(t, of(1, 2, 0), of(2, 3, 0))
	checkOrder(t, of(1, 10, 0), of(2, 15, 0))
	// 1/63 and 1/64.
	checkOrder(t, of(62, 63, 0), of(63, 64, 0))
	// (2^31 + 1)/2 and 2^30: they differ by 1/2.
	checkOrder(t, of(1, 2, 1<<31), of(0, 1, 1<<30-1))
	// 68174084 and 4/62, 4/63, 3/62.
	checkOrder(t, of(61, 62, 4226793211), of(62, 63, 1<<32-1), of(61, 62, 4226793210))
}

// TestNeighbours holds scores against each other that are as near as scores of such candidates come.
func TestNeighbours(t *testing.T) {
	d := dice(1)
	near := 0
	for range 20000 {
		a := of(d.roll(64), 64, uint64(1<<32-1-d.roll(1<<15)*d.roll(1<<15)))
		b := of(d.roll(64), 64, 0)
		// The age at which b has the score of a, as near as it comes.
		up := uint64(a.Pages-a.Live) * (a.Age + 1) * uint64(b.Live+1)
		down := uint64(b.Pages-b.Live) * uint64(a.Live+1)
		if up/down > 1<<32 {
			continue
		}
		near++
		for age := up/down - 2; age <= up/down+2; age++ {
			b.Age = age
			checkBetter(t, a, b, better(a, b))
			checkBetter(t, b, a, better(b, a))
		}
	}
	if near < 5000 {
		t.Errorf("%d candidates have such neighbours", near)
	}
}

func TestAgesFrom2To32On(t *testing.T) {
	checkOrder(t, of(3, 8, 1<<32), of(3, 8, 1<<32-1), of(3, 8, 1<<32-2), of(3, 8, 1<<31), of(3, 8, 1), of(3, 8, 0))
	for _, live := range []int{0, 1, 3, 62, 63} {
		var l []api.Candidate
		for _, age := range ages() {
			if age >= 1<<32 {
				l = append(l, of(live, 64, age))
			}
		}
		if len(l) < 9 {
			t.Fatalf("there are %d such ages", len(l))
		}
		checkEqual(t, l...)
		for _, c := range l {
			checkOrder(t, c, of(live, 64, 1<<32-1))
		}
	}
}

// P17.2: Better

func TestBetterWhereOneGains(t *testing.T) {
	for _, a := range []api.Candidate{of(0, 1, 0), of(7, 8, 0), of(63, 64, 0), of(0, 64, math.MaxUint64)} {
		for _, b := range useless() {
			for _, seg := range segs() {
				checkOrder(t, a, at(seg, b))
				checkOrder(t, at(seg, a), b)
			}
		}
	}
}

func TestBetterWhereNoneGains(t *testing.T) {
	for _, seg := range segs() {
		for _, a := range useless() {
			checkSame(t, append(useless(), at(seg, a))...)
		}
	}
}

func TestBetterWhereBothGain(t *testing.T) {
	// Where the scores differ, the segments do not count.
	for _, one := range segs() {
		for _, other := range segs() {
			checkOrder(t, at(one, of(3, 8, 5)), at(other, of(4, 8, 5)))
			checkOrder(t, at(one, of(3, 8, 5)), at(other, of(3, 8, 4)))
			checkOrder(t, at(one, of(3, 8, 5)), at(other, of(3, 7, 5)))
		}
	}
}

func TestBetterBySeg(t *testing.T) {
	for _, c := range []api.Candidate{of(0, 1, 0), of(3, 8, 5), of(63, 64, 1<<32), of(0, 64, math.MaxUint64)} {
		var l []api.Candidate
		for _, seg := range segs() {
			l = append(l, at(seg, c))
		}
		checkOrder(t, l...)
	}
}

func TestBetterOfAnyTwo(t *testing.T) {
	d := dice(2)
	is := 0
	for range 200000 {
		a, b := d.candidate(), d.candidate()
		want := better(a, b)
		checkBetter(t, a, b, want)
		if want {
			is++
		}
	}
	if is < 60000 || is > 140000 {
		t.Errorf("%d of 200000 are better", is)
	}
	for range 50000 {
		a, b := d.small(), d.small()
		checkBetter(t, a, b, better(a, b))
	}
}

func TestBetterOfAnyTwoSorts(t *testing.T) {
	all := []api.Candidate{of(0, 1, 0), of(3, 8, 5), of(63, 64, 1<<32), of(8, 8, 5)}
	everySort(func(c api.Candidate) {
		for _, other := range all {
			// Segments and ages that can't count need not be asked of the reference, which is slow.
			if !gains(c) {
				checkBetter(t, c, other, false)
				checkBetter(t, other, c, gains(other))
				continue
			}
			checkBetter(t, c, other, better(c, other))
			checkBetter(t, other, c, better(other, c))
		}
	})
}

// P17.2: Best

func TestBestOfNone(t *testing.T) {
	checkBest(t, -1)
	for _, l := range [][]api.Candidate{nil, {}, make([]api.Candidate, 0, 5)} {
		checkBest(t, -1, l...)
	}
}

func TestBestOfASingleOne(t *testing.T) {
	for _, c := range []api.Candidate{of(0, 1, 0), of(3, 8, 5), of(63, 64, 0), of(0, 64, math.MaxUint64), at(math.MinInt, of(0, 1, 0))} {
		checkBest(t, 0, c)
	}
	for _, c := range useless() {
		checkBest(t, -1, c)
	}
}

func TestBestWhereNoneGains(t *testing.T) {
	l := useless()
	for n := range l {
		checkBest(t, -1, l[:n]...)
		checkBest(t, -1, l[n:]...)
	}
}

func TestBestAtEachPlace(t *testing.T) {
	rest := []api.Candidate{of(4, 8, 0), of(3, 8, 0), of(7, 8, 7), of(2, 8, 0), of(63, 64, 9)}
	for i := range len(rest) + 1 {
		checkBest(t, i, slices.Insert(slices.Clone(rest), i, of(0, 8, 0))...)
		// The segment decides between equal scores.
		checkBest(t, i, slices.Insert(slices.Clone(rest), i, at(4, of(2, 8, 0)))...)
		checkBest(t, i, slices.Insert(slices.Clone(rest), i, at(-1, of(1, 5, 0)))...)
	}
}

func TestBestOfSeveralThatAreTheSame(t *testing.T) {
	c, less := of(2, 8, 3), of(4, 8, 3)
	checkBest(t, 0, c, c)
	checkBest(t, 0, c, c, c)
	checkBest(t, 0, c, less, c)
	checkBest(t, 1, less, c, c)
	checkBest(t, 1, less, c, less, c)
	checkBest(t, 2, of(8, 8, 3), less, c, c, of(9, 8, 3), c)
	// The same score with unlike fields is as good.
	checkBest(t, 0, of(0, 8, 0), of(0, 4, 1), of(1, 17, 0))
	checkBest(t, 0, of(0, 4, 1), of(0, 8, 0), of(1, 17, 0))
	checkBest(t, 0, of(1, 17, 0), of(0, 4, 1), of(0, 8, 0))
}

func TestBestBetweenThoseThatGainNothing(t *testing.T) {
	for _, u := range useless() {
		for _, seg := range segs() {
			u := at(seg, u)
			checkBest(t, 1, u, of(7, 8, 0))
			checkBest(t, 0, of(7, 8, 0), u)
			checkBest(t, 1, u, of(7, 8, 0), u)
			checkBest(t, 3, u, of(7, 8, 0), u, of(6, 8, 0), u)
			checkBest(t, 1, u, of(6, 8, 0), u, of(7, 8, 0), u)
			checkBest(t, 1, u, of(6, 8, 0), u, of(6, 8, 0), u)
		}
	}
}

func TestBestOfAny(t *testing.T) {
	d := dice(3)
	places := map[int]int{}
	for i := range 6000 {
		one := d.candidate
		if i%2 == 0 {
			one = d.small
		}
		l := d.list(d.roll(9), one)
		want := best(l)
		checkBest(t, want, l...)
		places[want]++
	}
	for i := -1; i < 8; i++ {
		if places[i] < 50 {
			t.Errorf("%d of the lists have their best one at %d", places[i], i)
		}
	}
}

func TestBestOfMany(t *testing.T) {
	d := dice(4)
	for _, n := range []int{100, 256, 1000, 5000} {
		l := d.list(n, d.candidate)
		checkBest(t, best(l), l...)
		slices.Reverse(l)
		checkBest(t, best(l), l...)
	}
	l := make([]api.Candidate, 1<<18)
	checkBest(t, -1, l...)
	l[len(l)-1] = of(63, 64, 0)
	checkBest(t, len(l)-1, l...)
	l[77] = of(63, 64, 0)
	checkBest(t, 77, l...)
}

// P17.3

// mixed returns candidates among which many have the same score.
func mixed() []api.Candidate {
	d := dice(5)
	l := slices.Concat(useless(), d.list(60, d.candidate), d.list(60, d.small))
	for _, age := range []uint64{0, 1, 3, 1<<32 - 1, 1 << 32, math.MaxUint64} {
		l = append(l, of(0, 4, age), of(1, 2, age), of(0, 2, age), of(3, 4, age), of(63, 64, age), at(-9, of(0, 1, age)))
	}
	return l
}

func TestNoneIsBetterThanItself(t *testing.T) {
	everySort(func(c api.Candidate) { checkBetter(t, c, c, false) })
	for _, c := range mixed() {
		checkBetter(t, c, c, false)
	}
}

func TestBetterIsTransitive(t *testing.T) {
	l := mixed()
	is := make([][]bool, len(l))
	for i, a := range l {
		for k, b := range l {
			is[i] = append(is[i], pick.Better(a, b))
			if is[i][k] && pick.Better(b, a) {
				t.Errorf("each of %+v and %+v is better than the other", a, b)
			}
		}
	}
	for i, a := range l {
		for k, b := range l {
			for m, c := range l {
				if is[i][k] && is[k][m] && !is[i][m] {
					t.Fatalf("%+v is better than %+v, and that than %+v", a, b, c)
				}
			}
		}
	}
}

// P17.4

func TestFewerLivePagesAreBetter(t *testing.T) {
	for n := 1; n <= 64; n++ {
		for _, age := range ages() {
			for live := range n {
				checkOrder(t, of(live, n, age), of(live+1, n, age))
				checkOrder(t, of(0, n, age), of(live+1, n, age))
			}
		}
	}
}

func TestOlderOnesAreBetter(t *testing.T) {
	for n := 1; n <= 64; n++ {
		for live := range n {
			for i, age := range ages()[1:] {
				younger := ages()[i]
				if younger < 1<<32 {
					checkOrder(t, of(live, n, age), of(live, n, younger))
				} else {
					checkSame(t, of(live, n, age), of(live, n, younger))
				}
			}
		}
	}
}

func TestFewerLivePagesAndOlderOnesOfMany(t *testing.T) {
	d := dice(6)
	for range 50000 {
		a := d.candidate()
		b, c := a, a
		b.Live += 1 + d.roll(64)
		checkBetter(t, a, b, gains(a))
		checkBetter(t, b, a, !gains(a) && gains(b))
		c.Age = a.Age % (1 << 32) / 2
		checkBetter(t, a, c, gains(a) && a.Age > c.Age)
		checkBetter(t, c, a, false)
	}
}

// The chapter's example

func TestExample(t *testing.T) {
	l := []api.Candidate{{Seg: 0, Live: 4, Pages: 8, Age: 0}, {Seg: 1, Live: 0, Pages: 8, Age: 0}, {Seg: 2, Live: 6, Pages: 8, Age: 30}}
	checkBest(t, 2, l...)
	checkOrder(t, l[2], l[1], l[0])
}

// Rules 4 to 6 of the document

func TestListIsNeitherChangedNorReadBeyondItsLength(t *testing.T) {
	d := dice(7)
	for range 3000 {
		l := d.list(d.roll(12), d.candidate)
		// What stands around it is better than anything.
		ideal := at(math.MinInt, of(0, 64, 1<<32))
		array := slices.Concat([]api.Candidate{ideal, ideal}, l, []api.Candidate{ideal, ideal, ideal})
		was := slices.Clone(array)
		checkBest(t, best(l), array[2:2+len(l):len(array)]...)
		if !slices.Equal(array, was) {
			t.Fatal("Best changed what it was given")
		}
	}
}

func TestListIsNotKept(t *testing.T) {
	d := dice(8)
	l := d.list(10, d.candidate)
	for range 3000 {
		l[d.roll(len(l))] = d.candidate()
		checkBest(t, best(l), l...)
		part := l[:d.roll(len(l))]
		checkBest(t, best(part), part...)
		checkBest(t, -1)
	}
}

func TestSameCallsSameResults(t *testing.T) {
	d := dice(9)
	for range 200 {
		l := d.list(20, d.candidate)
		want := pick.Best(l)
		for _, c := range l {
			// What is called in between changes nothing.
			pick.Right(c)
			pick.Gains(c)
			pick.Better(c, l[0])
			pick.Best(l[1:])
			checkBest(t, want, l...)
		}
	}
}

func TestSeveralAtATime(t *testing.T) {
	done := make(chan []int)
	for range 8 {
		go func() {
			d := dice(10)
			var all []int
			for range 500 {
				all = append(all, pick.Best(d.list(30, d.candidate)))
			}
			done <- all
		}()
	}
	first := <-done
	for range 7 {
		if l := <-done; !slices.Equal(l, first) {
			t.Error("the same calls return something else")
		}
	}
}
