package queue_test

import (
	"math"
	"slices"
	"testing"

	"pumice/api"
	"pumice/queue"
)

// block returns a write of a block.
func block(addr uint32, seq uint64, n uint32) api.Write {
	return api.Write{Addr: addr, Seq: seq, Key: api.Key{Sum: api.Sum{5: 6}, N: n}}
}

// trim returns a write that discards a block.
func trim(addr uint32, seq uint64) api.Write {
	return api.Write{Addr: addr, Seq: seq, Trim: true}
}

// answers checks what calls returned, in order.
func answers(t *testing.T, got []api.Errno, want ...api.Errno) {
	t.Helper()
	if !slices.Equal(got, want) {
		t.Errorf("answers are %d, not %d", got, want)
	}
}

// must checks that calls returned OK.
func must(t *testing.T, got ...api.Errno) {
	t.Helper()
	answers(t, got, make([]api.Errno, len(got))...)
}

func checkPush(t *testing.T, q *queue.Queue, w api.Write, seq uint64, want api.Errno) {
	t.Helper()
	if n, err := q.Push(w); n != seq || err != want {
		t.Errorf("Push(%v) returns %d, %d; not %d, %d", w, n, err, seq, want)
	}
}

// checkPop checks that a write is at the front, and pops it.
func checkPop(t *testing.T, q *queue.Queue, want api.Write) {
	t.Helper()
	if w, there := q.Front(); w != want || !there {
		t.Errorf("Front returns %v, %t; not %v", w, there, want)
	}
	if w, there := q.Pop(); w != want || !there {
		t.Errorf("Pop returns %v, %t; not %v", w, there, want)
	}
}

func checkPopNone(t *testing.T, q *queue.Queue) {
	t.Helper()
	if w, there := q.Front(); w != (api.Write{}) || there {
		t.Errorf("Front returns %v, %t", w, there)
	}
	if w, there := q.Pop(); w != (api.Write{}) || there {
		t.Errorf("Pop returns %v, %t", w, there)
	}
}

func checkLast(t *testing.T, q *queue.Queue, want api.Write) {
	t.Helper()
	if w, there := q.Last(want.Addr); w != want || !there {
		t.Errorf("Last(%d) returns %v, %t; not %v", want.Addr, w, there, want)
	}
}

func checkLastNone(t *testing.T, q *queue.Queue, addr uint32) {
	t.Helper()
	if w, there := q.Last(addr); w != (api.Write{}) || there {
		t.Errorf("Last(%d) returns %v, %t", addr, w, there)
	}
}

// checkAll checks which writes a queue has, and its next number.
func checkAll(t *testing.T, q *queue.Queue, next uint64, want ...api.Write) {
	t.Helper()
	if l := q.All(); !slices.Equal(l, want) {
		t.Errorf("All returns %s", differ(l, want))
	}
	if n := q.Len(); n != len(want) {
		t.Errorf("Len returns %d, not %d", n, len(want))
	}
	if n := q.Next(); n != next {
		t.Errorf("Next returns %d, not %d", n, next)
	}
}

// checkEmpty checks that a queue has no writes, without popping.
func checkEmpty(t *testing.T, q *queue.Queue, next uint64) {
	t.Helper()
	checkAll(t, q, next)
	if w, there := q.Front(); w != (api.Write{}) || there {
		t.Errorf("Front returns %v, %t", w, there)
	}
	for _, a := range edges() {
		checkLastNone(t, q, a)
	}
}

func checkLoadRefuses(t *testing.T, next uint64, l ...api.Write) {
	t.Helper()
	if loadable(l, next) {
		t.Fatalf("%v and %d may be loaded", l, next)
	}
	if q, err := queue.Load(l, next); q != nil || err != api.ErrArg {
		t.Errorf("Load of %d writes and %d returns %t, %d", len(l), next, q != nil, err)
	}
}

// row returns n valid writes of a few addresses, with the numbers from 1 on.
func row(n int) []api.Write {
	l := make([]api.Write, n)
	for i := range l {
		l[i] = block(uint32(i%5), uint64(i+1), uint32(i))
		if i%3 == 2 {
			l[i] = trim(uint32(i%5), uint64(i+1))
		}
	}
	return l
}

// invalid returns writes that are not valid, each by one byte alone or by all.
func invalid() []api.Write {
	var l []api.Write
	for i := range 32 {
		for _, x := range []byte{1, 128, 255} {
			w := trim(3, 4)
			w.Key.Sum[i] = x
			l = append(l, w)
		}
	}
	for i := range 32 {
		w := trim(3, 4)
		w.Key.N = 1 << i
		l = append(l, w)
	}
	w := block(3, 4, 5)
	w.Trim = true
	return append(l, w)
}

// P14.1: New

func TestNew(t *testing.T) {
	b := pair(t)
	checkEmpty(t, b.q, 1)
	checkPopNone(t, b.q)
	checkEmpty(t, b.q, 1)
	checkPush(t, b.q, block(7, 0, 8), 1, api.OK)
	checkAll(t, b.q, 2, block(7, 1, 8))
}

func TestQueuesAreIndependent(t *testing.T) {
	one, other := pair(t), pair(t)
	must(t, one.push(t, block(1, 0, 1)))
	other.check(t, "the other")
	must(t, other.push(t, block(1, 0, 2)), other.push(t, trim(1, 0)))
	one.check(t, "the one")
	one.pop(t)
	one.check(t, "the one")
	other.check(t, "the other")
}

func TestQueuesLoadedFromOneListAreIndependent(t *testing.T) {
	l := row(6)
	one, other := loaded(t, 7, l...), loaded(t, 9, l...)
	one.pop(t)
	must(t, one.push(t, trim(0, 0)), other.push(t, block(0, 0, 9)))
	one.check(t, "the one")
	other.check(t, "the other")
	must(t, one.push(t, block(5, 0, 1)))
	other.pop(t)
	other.pop(t)
	one.check(t, "the one")
	other.check(t, "the other")
}

// P14.1: Load

func TestLoadOfNoWrites(t *testing.T) {
	for _, l := range [][]api.Write{nil, {}, make([]api.Write, 0, 5)} {
		checkLoadRefuses(t, 0, l...)
		for _, next := range []uint64{1, 2, 255, 1<<32 - 1, 1 << 32, 1<<63 - 1, 1 << 63, math.MaxUint64 - 2} {
			b := loaded(t, next, l...)
			checkEmpty(t, b.q, next)
			checkPopNone(t, b.q)
			checkPush(t, b.q, block(7, 0, 8), next, api.OK)
			checkAll(t, b.q, next+1, block(7, next, 8))
		}
		b := loaded(t, math.MaxUint64, l...)
		checkEmpty(t, b.q, math.MaxUint64)
		checkPush(t, b.q, block(7, 0, 8), 0, api.ErrArg)
		checkEmpty(t, b.q, math.MaxUint64)
	}
	if q, err := queue.Load(nil, 0); q != nil || err != api.ErrArg {
		t.Errorf("Load of nil and 0 returns %t, %d", q != nil, err)
	}
}

func TestLoadHasExactlyTheseWrites(t *testing.T) {
	l := []api.Write{block(9, 2, 1), trim(9, 3), block(0, 10, 0), block(math.MaxUint32, 1<<40, math.MaxUint32)}
	b := loaded(t, 1<<40+1, l...)
	checkAll(t, b.q, 1<<40+1, l...)
	checkLast(t, b.q, l[1])
	checkLast(t, b.q, l[2])
	checkLast(t, b.q, l[3])
	checkLastNone(t, b.q, 1)
	for _, w := range l {
		checkPop(t, b.q, w)
	}
	checkPopNone(t, b.q)
	checkEmpty(t, b.q, 1<<40+1)
}

func TestLoadOfEachNext(t *testing.T) {
	w := block(1, 5, 2)
	for _, next := range []uint64{0, 1, 2, 4, 5} {
		checkLoadRefuses(t, next, w)
	}
	for _, next := range []uint64{6, 7, 255, 1 << 32, 1<<63 - 1, 1 << 63, 1<<63 + 5, math.MaxUint64 - 1, math.MaxUint64} {
		checkAll(t, loaded(t, next, w).q, next, w)
	}
}

func TestLoadOfANextOfZero(t *testing.T) {
	// No number is less than 0, so that it is no next number of any writes.
	for _, seq := range []uint64{0, 1, 2, 1 << 63, math.MaxUint64} {
		checkLoadRefuses(t, 0, block(1, seq, 1))
	}
	for _, n := range []int{0, 1, 2, 40} {
		checkLoadRefuses(t, 0, row(n)...)
	}
}

func TestLoadOfANumberOfZero(t *testing.T) {
	for _, next := range []uint64{1, 2, 100, math.MaxUint64} {
		checkLoadRefuses(t, next, block(1, 0, 1))
		checkLoadRefuses(t, next, trim(1, 0))
		checkLoadRefuses(t, next, api.Write{})
		checkLoadRefuses(t, next, block(1, 0, 1), block(1, 1, 1))
	}
	for _, n := range []int{2, 3, 40} {
		for _, at := range []int{0, 1, n / 2, n - 1} {
			l := row(n)
			l[at].Seq = 0
			checkLoadRefuses(t, 1000, l...)
		}
	}
}

func TestLoadOfANumberThatIsNotLessThanNext(t *testing.T) {
	for _, next := range []uint64{1, 2, 3, 256, 1<<32 - 1, 1 << 32, 1 << 63, math.MaxUint64 - 1} {
		for _, seq := range []uint64{next, next + 1, math.MaxUint64} {
			checkLoadRefuses(t, next, block(1, seq, 1))
			checkLoadRefuses(t, next, trim(1, seq))
		}
		if next > 1 {
			checkAll(t, loaded(t, next, block(1, next-1, 1)).q, next, block(1, next-1, 1))
		}
	}
	checkLoadRefuses(t, math.MaxUint64, block(1, math.MaxUint64, 1))
	for _, n := range []int{1, 2, 3, 40} {
		l := row(n)
		checkLoadRefuses(t, uint64(n), l...)
		checkLoadRefuses(t, uint64(n)-1, l...)
		checkAll(t, loaded(t, uint64(n)+1, l...).q, uint64(n)+1, l...)
	}
}

func TestLoadOfANumberThatIsNotGreater(t *testing.T) {
	for _, seq := range []uint64{2, 3, 255, 256, 1<<32 - 1, 1 << 32, 1 << 63, math.MaxUint64 - 2} {
		next := uint64(math.MaxUint64)
		for _, less := range []uint64{1, seq - 1, seq} {
			checkLoadRefuses(t, next, block(1, seq, 1), block(2, less, 2))
			checkLoadRefuses(t, next, block(1, seq, 1), trim(1, less))
		}
		loaded(t, next, block(1, seq, 1), block(2, seq+1, 2))
		loaded(t, next, block(1, 1, 1), block(2, seq, 2))
	}
}

func TestLoadOfANumberThatIsNotGreaterFarBack(t *testing.T) {
	for _, n := range []int{3, 40, 1000} {
		for _, at := range []int{1, n / 2, n - 1} {
			l := row(n)
			for i := range l {
				l[i].Seq *= 10
			}
			next := uint64(n)*10 + 1
			loaded(t, next, l...)
			l[at].Seq -= 9
			loaded(t, next, l...)
			l[at].Seq--
			checkLoadRefuses(t, next, l...)
			l[at].Seq--
			checkLoadRefuses(t, next, l...)
			l[at].Seq = 1
			checkLoadRefuses(t, next, l...)
		}
	}
	// The numbers of an address increase, and those of all do not.
	checkLoadRefuses(t, 9, block(1, 1, 1), block(2, 4, 1), block(1, 2, 1), block(2, 5, 1))
	// Nor is a number held against the first one alone.
	checkLoadRefuses(t, 9, block(1, 1, 1), block(2, 4, 1), block(3, 3, 1))
}

func TestLoadOfGaps(t *testing.T) {
	l := []api.Write{block(1, 3, 1), trim(1, 4), block(1, 100, 2), block(2, 1<<40, 3), trim(2, 1<<63), block(1, math.MaxUint64-2, 4)}
	b := loaded(t, math.MaxUint64-1, l...)
	checkAll(t, b.q, math.MaxUint64-1, l...)
	for _, w := range l[:5] {
		checkPop(t, b.q, w)
	}
	checkPush(t, b.q, block(2, 0, 5), math.MaxUint64-1, api.OK)
	checkAll(t, b.q, math.MaxUint64, l[5], block(2, math.MaxUint64-1, 5))
}

func TestLoadOfInvalidWrites(t *testing.T) {
	for _, w := range invalid() {
		checkLoadRefuses(t, 5, w)
		for _, n := range []int{2, 40} {
			for _, at := range []int{0, n / 2, n - 1} {
				l := row(n)
				w.Seq = l[at].Seq
				l[at] = w
				checkLoadRefuses(t, 1000, l...)
			}
		}
		// The key of a write of a block may be any.
		w.Trim = false
		w.Seq = 4
		checkAll(t, loaded(t, 5, w).q, 5, w)
		// So may the address and the number of one that discards.
		w = trim(w.Addr, w.Seq)
		checkAll(t, loaded(t, 5, w).q, 5, w)
	}
}

func TestLoadOfAZeroKey(t *testing.T) {
	// A block may have the zero key too, and is no discarded one by that.
	l := []api.Write{{Addr: 1, Seq: 2}, trim(1, 3), {Addr: 1, Seq: 4}}
	b := loaded(t, 5, l...)
	checkAll(t, b.q, 5, l...)
	checkLast(t, b.q, l[2])
	checkPop(t, b.q, l[0])
	checkPop(t, b.q, l[1])
	checkPop(t, b.q, l[2])
}

func TestLoadOfAnyWrites(t *testing.T) {
	d := dice(1)
	right := 0
	for range 4000 {
		l, next := d.writes(d.roll(6))
		if len(l) > 0 {
			switch at := d.roll(len(l)); d.roll(6) {
			case 0:
				l[at].Seq -= d.gap()
			case 1:
				l[at].Seq += d.gap()
			case 2:
				l[at].Key = d.key()
			case 3:
				next -= d.gap()
			}
		}
		if loadable(l, next) {
			right++
			loaded(t, next, l...)
		} else {
			checkLoadRefuses(t, next, l...)
		}
	}
	if right < 1500 || right > 3500 {
		t.Errorf("%d of 4000 lists are loaded", right)
	}
}

// P14.1: Push

func TestPush(t *testing.T) {
	b := pair(t)
	var want []api.Write
	for i := range 100 {
		w := block(uint32(i%7), 0, uint32(i))
		if i%4 == 1 {
			w = trim(uint32(i%7), 0)
		}
		seq := uint64(i + 1)
		checkPush(t, b.q, w, seq, api.OK)
		w.Seq = seq
		want = append(want, w)
		checkAll(t, b.q, seq+1, want...)
		checkLast(t, b.q, w)
	}
}

func TestPushOfEachAddressAndKey(t *testing.T) {
	b := pair(t)
	for _, a := range edges() {
		must(t, b.push(t, trim(a, 0)))
		for _, n := range []uint32{0, 1, 1 << 31, math.MaxUint32} {
			must(t, b.push(t, api.Write{Addr: a, Key: api.Key{N: n}}), b.push(t, block(a, 0, n)))
		}
		b.check(t, "pushed")
	}
	for i := range 32 {
		var k api.Key
		k.Sum[i] = 200
		must(t, b.push(t, api.Write{Addr: 9, Key: k}))
		checkLast(t, b.q, api.Write{Addr: 9, Seq: b.q.Next() - 1, Key: k})
	}
	b.check(t, "pushed")
}

func TestPushOfAnInvalidWrite(t *testing.T) {
	for _, b := range []both{pair(t), loaded(t, 1), loaded(t, 50, row(5)...), loaded(t, math.MaxUint64-1, row(5)...)} {
		was, next := b.q.All(), b.q.Next()
		for _, w := range invalid() {
			checkPush(t, b.q, w, 0, api.ErrArg)
			for _, seq := range []uint64{0, 1, next - 1, next, math.MaxUint64} {
				w.Seq = seq
				checkPush(t, b.q, w, 0, api.ErrArg)
			}
			checkAll(t, b.q, next, was...)
		}
		b.check(t, "behind refused writes")
		// No number was used up.
		checkPush(t, b.q, trim(3, 0), next, api.OK)
		checkAll(t, b.q, next+1, append(was, trim(3, next))...)
	}
}

func TestPushIgnoresSeq(t *testing.T) {
	b := loaded(t, 10, block(1, 9, 1))
	for i, seq := range []uint64{0, 1, 9, 10, 11, 1 << 32, 1 << 63, math.MaxUint64 - 1, math.MaxUint64} {
		n := uint64(10 + 2*i)
		checkPush(t, b.q, block(2, seq, 7), n, api.OK)
		checkLast(t, b.q, block(2, n, 7))
		checkPush(t, b.q, trim(2, seq), n+1, api.OK)
		checkLast(t, b.q, trim(2, n+1))
	}
	if n := b.q.Next(); n != 28 {
		t.Errorf("Next returns %d, not 28", n)
	}
}

func TestPushAtTheEndOfTheNumbers(t *testing.T) {
	for _, l := range [][]api.Write{nil, row(3)} {
		b := loaded(t, math.MaxUint64-2, l...)
		checkPush(t, b.q, block(1, 0, 1), math.MaxUint64-2, api.OK)
		b = loaded(t, math.MaxUint64-1, append(l, block(1, math.MaxUint64-2, 1))...)
		checkPush(t, b.q, block(2, 5, 1), math.MaxUint64-1, api.OK)
		l = append(l, block(1, math.MaxUint64-2, 1), block(2, math.MaxUint64-1, 1))
		for _, w := range []api.Write{block(3, 0, 1), trim(3, 0), block(2, math.MaxUint64, 1), {}, invalid()[0]} {
			checkPush(t, b.q, w, 0, api.ErrArg)
			checkAll(t, b.q, math.MaxUint64, l...)
		}
		// Room in the queue makes no number free.
		for _, w := range l {
			checkPop(t, b.q, w)
			checkPush(t, b.q, block(3, 0, 1), 0, api.ErrArg)
		}
		checkEmpty(t, b.q, math.MaxUint64)
	}
}

// P14.1: Pop

func TestPopUntilEmptyAndOnceMore(t *testing.T) {
	b := pair(t)
	next := uint64(1)
	for _, n := range []uint64{1, 2, 5, 40, 300} {
		for i := range n {
			checkPush(t, b.q, block(uint32(i%3), 0, uint32(i)), next+i, api.OK)
		}
		for i := range n {
			checkPop(t, b.q, block(uint32(i%3), next+i, uint32(i)))
			if left := b.q.Len(); left != int(n-i)-1 {
				t.Errorf("Len returns %d, not %d", left, n-i-1)
			}
		}
		next += n
		for range 3 {
			checkPopNone(t, b.q)
			checkEmpty(t, b.q, next)
		}
	}
	// The numbers go on, as if nothing had been popped.
	checkPush(t, b.q, trim(0, 0), next, api.OK)
	checkAll(t, b.q, next+1, trim(0, next))
}

func TestPopBetweenPushes(t *testing.T) {
	b := pair(t)
	for i := range uint64(500) {
		checkPush(t, b.q, block(uint32(i%4), 0, 1), 2*i+1, api.OK)
		checkPush(t, b.q, trim(uint32(i%4), 0), 2*i+2, api.OK)
		if i%2 == 0 {
			checkPop(t, b.q, block(uint32(i/2%4), i+1, 1))
		} else {
			checkPop(t, b.q, trim(uint32(i/2%4), i+1))
		}
		if n := b.q.Len(); n != int(i)+1 {
			t.Errorf("Len returns %d, not %d", n, i+1)
		}
	}
}

// P14.2: Last

func TestLastOfSeveralWrites(t *testing.T) {
	for _, a := range edges() {
		b := pair(t)
		checkLastNone(t, b.q, a)
		checkPush(t, b.q, block(a, 0, 1), 1, api.OK)
		checkLast(t, b.q, block(a, 1, 1))
		checkPush(t, b.q, block(a^1, 0, 2), 2, api.OK)
		checkPush(t, b.q, block(a^1<<31, 0, 3), 3, api.OK)
		checkLast(t, b.q, block(a, 1, 1))
		checkPush(t, b.q, trim(a, 0), 4, api.OK)
		checkLast(t, b.q, trim(a, 4))
		checkPush(t, b.q, block(a, 0, 1), 5, api.OK)
		checkLast(t, b.q, block(a, 5, 1))
		checkLast(t, b.q, block(a^1, 2, 2))
		checkLast(t, b.q, block(a^1<<31, 3, 3))
		for _, e := range edges() {
			if e != a && e != a^1 && e != a^1<<31 {
				checkLastNone(t, b.q, e)
			}
		}
	}
}

func TestLastOfAPoppedWrite(t *testing.T) {
	for _, a := range edges() {
		b := loaded(t, 3, block(a, 1, 1), block(a^1, 2, 2))
		b.pop(t)
		checkLastNone(t, b.q, a)
		checkLast(t, b.q, block(a^1, 2, 2))
		// It comes again behind that.
		must(t, b.push(t, trim(a, 0)))
		checkLast(t, b.q, trim(a, 3))
		b.pop(t)
		checkLastNone(t, b.q, a^1)
		checkLast(t, b.q, trim(a, 3))
		b.pop(t)
		checkLastNone(t, b.q, a)
	}
}

func TestLastWhenOlderWritesArePopped(t *testing.T) {
	for n := uint64(1); n < 8; n++ {
		b := pair(t)
		for i := range n {
			checkPush(t, b.q, block(0, 0, uint32(i)), 2*i+1, api.OK)
			checkPush(t, b.q, trim(math.MaxUint32, 0), 2*i+2, api.OK)
		}
		for i := range n - 1 {
			checkPop(t, b.q, block(0, 2*i+1, uint32(i)))
			checkPop(t, b.q, trim(math.MaxUint32, 2*i+2))
			checkLast(t, b.q, block(0, 2*n-1, uint32(n-1)))
			checkLast(t, b.q, trim(math.MaxUint32, 2*n))
		}
		checkPop(t, b.q, block(0, 2*n-1, uint32(n-1)))
		checkLastNone(t, b.q, 0)
		checkLast(t, b.q, trim(math.MaxUint32, 2*n))
		checkPop(t, b.q, trim(math.MaxUint32, 2*n))
		checkEmpty(t, b.q, 2*n+1)
	}
}

func TestLastOfALoadedQueue(t *testing.T) {
	b := loaded(t, 9, block(5, 1, 1), block(6, 3, 1), trim(5, 4), block(7, 5, 1), block(6, 8, 2))
	checkLast(t, b.q, trim(5, 4))
	checkLast(t, b.q, block(6, 8, 2))
	checkLast(t, b.q, block(7, 5, 1))
	checkLastNone(t, b.q, 0)
	checkLastNone(t, b.q, 8)
	for range 3 {
		b.pop(t)
		b.check(t, "behind Pop")
	}
	checkLastNone(t, b.q, 5)
	checkLast(t, b.q, block(6, 8, 2))
	checkLast(t, b.q, block(7, 5, 1))
}

func TestLastOfManyAddresses(t *testing.T) {
	b := pair(t)
	for a := range uint32(3000) {
		must(t, b.push(t, block(a*1431655, 0, a)))
	}
	for a := range uint32(3000) {
		checkLast(t, b.q, block(a*1431655, uint64(a)+1, a))
		checkLastNone(t, b.q, a*1431655+1)
	}
	for a := range uint32(3000) {
		b.pop(t)
		checkLastNone(t, b.q, a*1431655)
	}
}

// P14.2: Front, Len, Next and All

func TestFrontRemovesNothing(t *testing.T) {
	b := loaded(t, 9, block(5, 2, 1), trim(5, 4))
	for range 5 {
		if w, there := b.q.Front(); w != block(5, 2, 1) || !there {
			t.Errorf("Front returns %v, %t", w, there)
		}
		checkAll(t, b.q, 9, block(5, 2, 1), trim(5, 4))
	}
	must(t, b.push(t, block(5, 0, 3)))
	if w, there := b.q.Front(); w != block(5, 2, 1) || !there {
		t.Errorf("Front returns %v, %t", w, there)
	}
	b.pop(t)
	if w, there := b.q.Front(); w != trim(5, 4) || !there {
		t.Errorf("Front returns %v, %t", w, there)
	}
}

func TestLenAndNextBehindEachCall(t *testing.T) {
	q, err := queue.Load([]api.Write{block(5, 2, 1), trim(5, 4)}, 9)
	must(t, err)
	check := func(call string, n int, next uint64) {
		t.Helper()
		if q.Len() != n || q.Next() != next {
			t.Errorf("behind %s, Len and Next return %d, %d; not %d, %d", call, q.Len(), q.Next(), n, next)
		}
	}
	check("Load", 2, 9)
	q.Push(trim(6, 1))
	check("Push", 3, 10)
	q.Push(invalid()[0])
	check("a refused Push", 3, 10)
	q.Last(5)
	check("Last", 3, 10)
	q.Front()
	check("Front", 3, 10)
	q.Len()
	check("Len", 3, 10)
	q.Next()
	check("Next", 3, 10)
	q.All()
	check("All", 3, 10)
	for left := 2; left >= 0; left-- {
		q.Pop()
		check("Pop", left, 10)
	}
	q.Pop()
	check("a Pop of nothing", 0, 10)
	q.Front()
	check("a Front of nothing", 0, 10)
	q.Push(trim(6, 1))
	check("Push", 1, 11)
}

func TestAllOfAnEmptyQueue(t *testing.T) {
	b := pair(t)
	checkAll(t, b.q, 1)
	must(t, b.push(t, trim(1, 0)))
	b.pop(t)
	checkAll(t, b.q, 2)
	checkEmpty(t, b.q, 2)
}

func TestAllInTheOrderOfTheNumbers(t *testing.T) {
	// Neither the addresses nor the keys count for the order.
	b := pair(t)
	var want []api.Write
	for i := range 200 {
		w := block(uint32(1000-i*i%77), uint64(i+1), uint32(500-i))
		must(t, b.push(t, w))
		want = append(want, w)
	}
	checkAll(t, b.q, 201, want...)
	for i := range 200 {
		b.pop(t)
		checkAll(t, b.q, 201, want[i+1:]...)
	}
}

func TestAskingChangesNothing(t *testing.T) {
	b := loaded(t, 30, row(20)...)
	for range 20 {
		b.q.Last(0)
		b.q.Last(99)
		b.q.Front()
		b.q.Len()
		b.q.Next()
		b.q.All()
		b.check(t, "asked")
	}
}

func TestNilQueue(t *testing.T) {
	var q *queue.Queue
	for range 2 {
		checkPush(t, q, block(1, 2, 3), 0, api.ErrNone)
		checkPush(t, q, trim(1, 2), 0, api.ErrNone)
		checkPush(t, q, api.Write{}, 0, api.ErrNone)
		checkPush(t, q, invalid()[0], 0, api.ErrNone)
		checkPopNone(t, q)
		checkEmpty(t, q, 0)
	}
}

func TestQueueThatNobodyMade(t *testing.T) {
	var q queue.Queue
	checkPopNone(t, &q)
	checkPush(t, &q, invalid()[0], 0, api.ErrArg)
	next := q.Next()
	checkEmpty(t, &q, next)
	checkPush(t, &q, block(1, 2, 3), next, api.OK)
	checkAll(t, &q, next+1, block(1, next, 3))
	checkPop(t, &q, block(1, next, 3))
	checkEmpty(t, &q, next+1)
}

// P14.3

func TestWritesArePoppedInTheOrderInWhichTheyWerePushed(t *testing.T) {
	d := dice(2)
	for range 20 {
		q := queue.New()
		var pushed, popped []api.Write
		for range 400 {
			if d.roll(5) < 3 {
				w := d.write()
				if n, err := q.Push(w); err == api.OK {
					w.Seq = n
					pushed = append(pushed, w)
				}
			} else if w, there := q.Pop(); there {
				popped = append(popped, w)
			}
		}
		for w, there := q.Pop(); there; w, there = q.Pop() {
			popped = append(popped, w)
		}
		if !slices.Equal(popped, pushed) {
			t.Errorf("popped are %s", differ(popped, pushed))
		}
		for i := range popped {
			if popped[i].Seq != uint64(i+1) {
				t.Errorf("write %d has the number %d", i, popped[i].Seq)
			}
		}
		if len(popped) < 100 {
			t.Errorf("only %d writes were popped", len(popped))
		}
	}
}

func TestAnyCalls(t *testing.T) {
	d := dice(3)
	for range 10 {
		b := pair(t)
		for range 300 {
			b.step(t, &d)
			b.check(t, "behind a call")
		}
	}
}

func TestAnyCallsOnLoadedQueues(t *testing.T) {
	d := dice(4)
	for range 200 {
		l, next := d.writes(d.roll(50))
		b := loaded(t, next, l...)
		for range 60 {
			b.step(t, &d)
			b.check(t, "behind a call")
		}
	}
}

func TestManyCalls(t *testing.T) {
	d := dice(5)
	b := pair(t)
	for i := range 30000 {
		b.step(t, &d)
		if i%3000 == 0 {
			b.check(t, "behind many calls")
		}
	}
	b.check(t, "behind many calls")
	for b.q.Len() > 0 {
		b.pop(t)
	}
	b.check(t, "behind many calls")
}

// P14.4

func TestLoadOfAQueueYieldsTheSame(t *testing.T) {
	d := dice(6)
	for range 5 {
		b := pair(t)
		for range 200 {
			b.step(t, &d)
			q, err := queue.Load(b.q.All(), b.q.Next())
			must(t, err)
			// From here on, the loaded one goes on in place of the other.
			b.q = q
			b.check(t, "loaded")
		}
	}
}

func TestLoadOfAQueueGoesOnTheSame(t *testing.T) {
	d := dice(7)
	b := pair(t)
	for range 100 {
		b.step(t, &d)
		again := loaded(t, b.q.Next(), b.q.All()...)
		one, two := d, d
		for range 20 {
			b.step(t, &one)
			again.step(t, &two)
		}
		again.r.check(t, "the one", b.q)
		again.check(t, "the other")
	}
}

func TestLoadOfEmptyAndFullQueues(t *testing.T) {
	for _, b := range []both{pair(t), loaded(t, math.MaxUint64), loaded(t, math.MaxUint64, block(0, math.MaxUint64-1, 0)), loaded(t, 7, row(6)...)} {
		loaded(t, b.q.Next(), b.q.All()...)
		for range 7 {
			b.pop(t)
		}
		checkEmpty(t, loaded(t, b.q.Next(), b.q.All()...).q, b.q.Next())
	}
}

// The chapter's example

func TestExample(t *testing.T) {
	q := queue.New()
	checkPush(t, q, block(5, 0, 1), 1, api.OK)
	checkPush(t, q, block(7, 0, 2), 2, api.OK)
	checkPush(t, q, block(5, 0, 3), 3, api.OK)
	checkLast(t, q, block(5, 3, 3))
	checkPop(t, q, block(5, 1, 1))
	checkLast(t, q, block(5, 3, 3))
	checkPop(t, q, block(7, 2, 2))
	checkPop(t, q, block(5, 3, 3))
	checkLastNone(t, q, 5)
}

// Rules 2 to 6 of the document

func TestCallsThatAreRefusedChangeNothing(t *testing.T) {
	for _, b := range []both{pair(t), loaded(t, 2, row(1)...), loaded(t, 90, row(30)...), loaded(t, math.MaxUint64, row(3)...)} {
		was, next := b.q.All(), b.q.Next()
		for _, w := range invalid() {
			answers(t, []api.Errno{b.push(t, w)}, api.ErrArg)
		}
		if next == math.MaxUint64 {
			answers(t, []api.Errno{b.push(t, block(1, 2, 3))}, api.ErrArg)
		}
		checkAll(t, b.q, next, was...)
		b.check(t, "behind refused calls")
	}
}

// guarded returns the writes as a part of a greater array, and that array.
func guarded(l []api.Write) (inner, array []api.Write) {
	fence := api.Write{Addr: 77, Seq: 77, Key: api.Key{Sum: api.Sum{7: 77}, N: 77}}
	array = slices.Concat([]api.Write{fence, fence}, l, slices.Repeat([]api.Write{fence}, 300))
	return array[2 : 2+len(l) : len(array)], array
}

// spoil changes all writes, those behind the length too.
func spoil(l []api.Write) {
	l = l[:cap(l)]
	for i := range l {
		w := &l[i]
		w.Addr += 5
		w.Seq ^= 3
		w.Trim = !w.Trim
		w.Key.Sum[0] ^= 1
		w.Key.Sum[31] ^= 9
		w.Key.N += 3
	}
}

func TestWritesHandedInAreNotChanged(t *testing.T) {
	d := dice(8)
	for range 300 {
		l, next := d.writes(d.roll(12))
		if len(l) > 0 && d.roll(2) == 0 {
			// Some of these are refused.
			l[d.roll(len(l))] = d.write()
		}
		inner, array := guarded(l)
		was := slices.Clone(array)
		if q, err := queue.Load(inner, next); err == api.OK {
			b := both{q, refer(l, next)}
			for range 30 {
				b.step(t, &d)
			}
		}
		if !slices.Equal(array, was) {
			t.Errorf("the writes handed in were changed: %s", differ(array, was))
		}
	}
}

func TestWritesBeyondTheLengthAreNotRead(t *testing.T) {
	for _, n := range []int{0, 1, 40} {
		inner, array := guarded(row(n))
		b := loaded(t, 50, inner...)
		checkLastNone(t, b.q, 77)
		for _, w := range []api.Write{block(1, 0, 1), block(1, 50, 1), invalid()[0]} {
			array[2+n] = w
			b := loaded(t, 50, inner...)
			checkAll(t, b.q, 50, row(n)...)
		}
	}
}

func TestWritesHandedInAreNotKept(t *testing.T) {
	d := dice(9)
	for range 100 {
		l, next := d.writes(d.roll(12))
		inner, array := guarded(l)
		q, err := queue.Load(inner, next)
		must(t, err)
		b := both{q, refer(l, next)}
		spoil(array)
		b.check(t, "behind a change of what was handed in")
		for range 10 {
			b.step(t, &d)
			spoil(array)
			b.check(t, "behind a change of what was handed in")
		}
	}
}

func TestResultsAreTheCallersOwn(t *testing.T) {
	d := dice(10)
	b := loaded(t, 30, row(10)...)
	for range 200 {
		b.step(t, &d)
		one, other := b.q.All(), b.q.All()
		was := slices.Clone(other)
		spoil(one)
		if !slices.Equal(other, was) {
			t.Errorf("two results share memory: %s", differ(other, was))
		}
		b.check(t, "behind a change of results")
		// Nor is there room behind a result that anything else is put into.
		spoil(append(b.q.All(), block(1, 2, 3)))
		b.check(t, "behind a change of results")
	}
}

func TestResultsStayAsTheyWere(t *testing.T) {
	d := dice(11)
	for range 50 {
		l, next := d.writes(d.roll(20))
		b := loaded(t, next, l...)
		all := b.q.All()
		for range 40 {
			b.step(t, &d)
		}
		if !slices.Equal(all, l) {
			t.Errorf("a result became %s", differ(all, l))
		}
	}
}

func TestSameCallsSameResults(t *testing.T) {
	// Between the calls on one, the other gets the same.
	one, other := dice(12), dice(12)
	a, b := pair(t), pair(t)
	for range 300 {
		a.step(t, &one)
		b.check(t, "the other")
		b.step(t, &other)
		a.r.check(t, "the other", b.q)
	}
}

func TestSeveralAtATime(t *testing.T) {
	done := make(chan []api.Write)
	for range 8 {
		go func() {
			d := dice(13)
			q := queue.New()
			for range 2000 {
				if d.roll(9) < 5 {
					q.Push(d.write())
				} else {
					q.Pop()
				}
			}
			done <- q.All()
		}()
	}
	first := <-done
	for range 7 {
		if l := <-done; !slices.Equal(l, first) {
			t.Errorf("the same calls leave %s", differ(l, first))
		}
	}
}
