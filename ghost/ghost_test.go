package ghost_test

import (
	"math"
	"slices"
	"testing"

	"pumice/api"
	"pumice/ghost"
)

// checkAll checks which addresses are in a list.
func checkAll(t *testing.T, l *ghost.List, want ...uint32) {
	t.Helper()
	if got := l.All(); !slices.Equal(got, want) {
		t.Errorf("All returns %s", differ(got, want))
	}
}

func checkAsk(t *testing.T, l *ghost.List, addr uint32, want bool) {
	t.Helper()
	if got := l.Ask(addr); got != want {
		t.Errorf("Ask(%d) returns %t", addr, got)
	}
}

func checkDrop(t *testing.T, l *ghost.List, addr uint32, want bool) {
	t.Helper()
	if got := l.Drop(addr); got != want {
		t.Errorf("Drop(%d) returns %t", addr, got)
	}
}

func checkNewRefuses(t *testing.T, room int) {
	t.Helper()
	if l, err := ghost.New(room); l != nil || err != api.ErrArg {
		t.Errorf("New(%d) returns %t, %d", room, l != nil, err)
	}
}

// row returns the n addresses from from on.
func row(from uint32, n int) []uint32 {
	l := make([]uint32, n)
	for i := range l {
		l[i] = from + uint32(i)
	}
	return l
}

// back returns the addresses in the other order.
func back(l []uint32) []uint32 {
	l = slices.Clone(l)
	slices.Reverse(l)
	return l
}

// rooms returns how much room a list may have: the least and the most, and some between.
func rooms() []int {
	return []int{0, 1, 2, 3, 4, 7, 100, 255, 256, 4095, 4096}
}

// P15.1: New

func TestNewOfEachRoom(t *testing.T) {
	if api.MaxList != 4096 {
		t.Fatalf("MaxList is %d", api.MaxList)
	}
	for _, room := range []int{math.MinInt, math.MinInt + 1, math.MinInt + 5, math.MinInt32, -1 << 32, -4097, -4096, -2, -1} {
		checkNewRefuses(t, room)
	}
	for room := range 4097 {
		checkAll(t, pair(t, room).l)
	}
	for _, room := range []int{4097, 4098, 1 << 16, 1<<16 + 1, 1<<31 - 1, 1 << 31, 1 << 32, 1<<32 + 1, math.MaxInt - 1, math.MaxInt} {
		checkNewRefuses(t, room)
	}
}

func TestListsAreIndependent(t *testing.T) {
	one, other := pair(t, 3), pair(t, 3)
	for a := range uint32(5) {
		one.ask(t, a)
		other.check(t, "the other")
	}
	for _, a := range []uint32{4, 2, 9, 7, 9} {
		other.ask(t, a)
		one.check(t, "the one")
	}
	other.drop(t, 3)
	one.check(t, "the one")
	one.drop(t, 2)
	other.check(t, "the other")
	checkAll(t, one.l, 4, 3)
	checkAll(t, other.l, 7, 2)
}

// P15.1: Ask

func TestAskWithARoomOfZero(t *testing.T) {
	b := pair(t, 0)
	for _, a := range edges() {
		for range 3 {
			checkAsk(t, b.l, a, false)
			checkAll(t, b.l)
		}
		checkDrop(t, b.l, a, false)
		checkAll(t, b.l)
	}
}

func TestAskWithARoomOfOne(t *testing.T) {
	b := pair(t, 1)
	checkAsk(t, b.l, 5, false)
	checkAll(t, b.l, 5)
	checkAsk(t, b.l, 5, true)
	checkAll(t, b.l)
	checkAsk(t, b.l, 5, false)
	checkAsk(t, b.l, 6, false)
	checkAll(t, b.l, 6)
	checkAsk(t, b.l, 5, false)
	checkAll(t, b.l, 5)
	checkAsk(t, b.l, 5, true)
	checkAll(t, b.l)
}

func TestAskOfAnAddressThatIsNotThere(t *testing.T) {
	b := pair(t, 5)
	checkAsk(t, b.l, 10, false)
	checkAll(t, b.l, 10)
	checkAsk(t, b.l, 30, false)
	checkAll(t, b.l, 30, 10)
	// It is the order of the requests, and not of the addresses, that counts.
	checkAsk(t, b.l, 20, false)
	checkAll(t, b.l, 20, 30, 10)
	checkAsk(t, b.l, 0, false)
	checkAll(t, b.l, 0, 20, 30, 10)
	checkAsk(t, b.l, math.MaxUint32, false)
	checkAll(t, b.l, math.MaxUint32, 0, 20, 30, 10)
}

func TestAskOfAnAddressAtEachPlace(t *testing.T) {
	takeAtEachPlace(t, "ask")
}

// takeAtEachPlace removes the address at each place of lists, in one of two ways.
func takeAtEachPlace(t *testing.T, way string) {
	t.Helper()
	for n := 1; n <= 6; n++ {
		for _, room := range []int{n, n + 1, 100} {
			for at := range n {
				addrs := row(40, n)
				b := asked(t, room, addrs...)
				take(t, b.l, way, addrs[at])
				left := slices.Delete(slices.Clone(addrs), at, at+1)
				checkAll(t, b.l, back(left)...)
				checkDrop(t, b.l, addrs[at], false)
				checkAll(t, b.l, back(left)...)
				// It comes back as the latest one.
				checkAsk(t, b.l, addrs[at], false)
				checkAll(t, b.l, back(append(left, addrs[at]))...)
			}
		}
	}
}

func TestAskOfAnAddressAThirdTime(t *testing.T) {
	for _, room := range rooms()[1:] {
		b := pair(t, room)
		for range 5 {
			checkAsk(t, b.l, 7, false)
			checkAll(t, b.l, 7)
			checkAsk(t, b.l, 7, true)
			checkAll(t, b.l)
		}
	}
	b := asked(t, 3, 1, 2, 3)
	for range 4 {
		checkAsk(t, b.l, 2, true)
		checkAll(t, b.l, 3, 1)
		checkAsk(t, b.l, 2, false)
		checkAll(t, b.l, 2, 3, 1)
		checkAsk(t, b.l, 2, true)
		checkAsk(t, b.l, 1, true)
		checkAsk(t, b.l, 3, true)
		checkAll(t, b.l)
		checkAsk(t, b.l, 1, false)
		checkAsk(t, b.l, 2, false)
		checkAsk(t, b.l, 3, false)
		checkAll(t, b.l, 3, 2, 1)
	}
}

func TestAskOfRoomAddressesAndMore(t *testing.T) {
	for _, room := range rooms()[1:] {
		b := pair(t, room)
		addrs := row(1000, 2*room+3)
		for i, a := range addrs {
			checkAsk(t, b.l, a, false)
			if i < 5 || i >= room-2 && i <= room+3 || i == len(addrs)-1 {
				checkAll(t, b.l, back(addrs[max(0, i+1-room):i+1])...)
			}
		}
		// The latest of those that were removed is not there, and the oldest one that was not is.
		checkDrop(t, b.l, addrs[room+2], false)
		checkDrop(t, b.l, addrs[room+3], true)
		checkAll(t, b.l, back(addrs[room+4:])...)
	}
}

func TestAskOfAnAddressThatWasRemovedForRoom(t *testing.T) {
	b := asked(t, 3, 1, 2, 3, 4)
	checkAll(t, b.l, 4, 3, 2)
	checkAsk(t, b.l, 1, false)
	checkAll(t, b.l, 1, 4, 3)
	checkAsk(t, b.l, 2, false)
	checkAll(t, b.l, 2, 1, 4)
	checkAsk(t, b.l, 1, true)
	checkAll(t, b.l, 2, 4)
}

func TestAskOfAnAddressThatIsThereMakesNoOtherOneGo(t *testing.T) {
	for _, at := range []int{0, 1, 50, 98, 99} {
		addrs := row(0, 100)
		b := asked(t, 100, addrs...)
		checkAsk(t, b.l, addrs[at], true)
		addrs = slices.Delete(addrs, at, at+1)
		checkAll(t, b.l, back(addrs)...)
		// Nor does the one that fills its place.
		checkAsk(t, b.l, 500, false)
		addrs = append(addrs, 500)
		checkAll(t, b.l, back(addrs)...)
		checkAsk(t, b.l, 501, false)
		checkAll(t, b.l, back(append(addrs[1:], 501))...)
	}
}

func TestTheOldestOneIsRemoved(t *testing.T) {
	// Behind one that Ask or Drop removed, at each place, and behind two.
	for first := range 5 {
		for second := range 5 {
			for _, way := range []string{"ask", "drop"} {
				addrs := row(60, 5)
				b := asked(t, 5, addrs...)
				for _, a := range []uint32{addrs[first], addrs[second]} {
					if at := slices.Index(addrs, a); at >= 0 {
						addrs = slices.Delete(slices.Clone(addrs), at, at+1)
						take(t, b.l, way, a)
					}
				}
				checkAll(t, b.l, back(addrs)...)
				for a := range uint32(12) {
					checkAsk(t, b.l, a, false)
					addrs = append(addrs, a)
					addrs = addrs[max(0, len(addrs)-5):]
					checkAll(t, b.l, back(addrs)...)
				}
			}
		}
	}
}

// take removes an address that is there, in one of two ways.
func take(t *testing.T, l *ghost.List, way string, addr uint32) {
	t.Helper()
	if way == "ask" {
		checkAsk(t, l, addr, true)
	} else {
		checkDrop(t, l, addr, true)
	}
}

func TestAskOfEdges(t *testing.T) {
	b := pair(t, len(edges()))
	for _, a := range edges() {
		checkDrop(t, b.l, a, false)
		checkAsk(t, b.l, a, false)
	}
	checkAll(t, b.l, back(edges())...)
	for i, a := range edges() {
		checkAsk(t, b.l, a, true)
		checkAll(t, b.l, back(edges()[i+1:])...)
	}
}

func TestAskOfAddressZeroAndTheGreatestOne(t *testing.T) {
	for _, a := range []uint32{0, math.MaxUint32} {
		b := pair(t, 2)
		checkAsk(t, b.l, a, false)
		checkAll(t, b.l, a)
		checkAsk(t, b.l, ^a, false)
		checkAll(t, b.l, ^a, a)
		checkAsk(t, b.l, a, true)
		checkAll(t, b.l, ^a)
		checkDrop(t, b.l, a, false)
		checkAsk(t, b.l, a, false)
		checkAsk(t, b.l, 7, false)
		checkAll(t, b.l, 7, a)
		checkDrop(t, b.l, a, true)
		checkAll(t, b.l, 7)
	}
}

// P15.2: Drop

func TestDropOfAnAddressAtEachPlace(t *testing.T) {
	takeAtEachPlace(t, "drop")
}

func TestDropOfAnAddressThatIsNotThere(t *testing.T) {
	for _, room := range rooms() {
		b := pair(t, room)
		for _, a := range edges() {
			checkDrop(t, b.l, a, false)
			checkAll(t, b.l)
		}
	}
	b := asked(t, 3, 8, 6, 7)
	for _, a := range edges() {
		checkDrop(t, b.l, a, false)
		checkAll(t, b.l, 7, 6, 8)
	}
	// Nor was it noted as a request.
	checkAsk(t, b.l, 5, false)
	checkAll(t, b.l, 5, 7, 6)
	// 8 was removed for room.
	checkDrop(t, b.l, 8, false)
	checkAll(t, b.l, 5, 7, 6)
}

func TestDropOfTheOnlyOne(t *testing.T) {
	for _, room := range rooms()[1:] {
		b := pair(t, room)
		for range 3 {
			checkAsk(t, b.l, 9, false)
			checkDrop(t, b.l, 9, true)
			checkAll(t, b.l)
			checkDrop(t, b.l, 9, false)
			checkAll(t, b.l)
		}
		checkAsk(t, b.l, 4, false)
		checkAll(t, b.l, 4)
	}
}

func TestDropOfAll(t *testing.T) {
	for _, addrs := range [][]uint32{{1, 2, 3, 4}, {4, 3, 2, 1}, {2, 3, 1, 4}, {3, 1, 4, 2}} {
		b := asked(t, 4, 1, 2, 3, 4)
		for _, a := range addrs {
			if !b.drop(t, a) {
				t.Errorf("Drop(%d) returns false", a)
			}
			b.check(t, "dropped")
		}
		checkAll(t, b.l)
		for _, a := range addrs {
			if b.ask(t, a) {
				t.Errorf("Ask(%d) returns true", a)
			}
			b.check(t, "asked")
		}
		checkAll(t, b.l, back(addrs)...)
	}
}

func TestDropMakesRoom(t *testing.T) {
	b := asked(t, 3, 1, 2, 3)
	checkDrop(t, b.l, 2, true)
	checkAsk(t, b.l, 4, false)
	checkAll(t, b.l, 4, 3, 1)
	checkAsk(t, b.l, 5, false)
	checkAll(t, b.l, 5, 4, 3)
	checkDrop(t, b.l, 5, true)
	checkDrop(t, b.l, 3, true)
	checkAsk(t, b.l, 6, false)
	checkAsk(t, b.l, 7, false)
	checkAll(t, b.l, 7, 6, 4)
}

// P15.2: All

func TestAllOfAnEmptyList(t *testing.T) {
	for _, room := range rooms() {
		b := pair(t, room)
		checkAll(t, b.l)
		b.ask(t, 1)
		b.drop(t, 1)
		checkAll(t, b.l)
		b.ask(t, 1)
		b.ask(t, 1)
		checkAll(t, b.l)
	}
}

func TestAllOfAFullList(t *testing.T) {
	addrs := row(math.MaxUint32-4095, 4096)
	b := asked(t, 4096, addrs...)
	checkAll(t, b.l, back(addrs)...)
	checkAsk(t, b.l, 3, false)
	checkAll(t, b.l, back(append(addrs[1:], 3))...)
	// One more is there again, when one that is there is asked.
	checkAsk(t, b.l, addrs[1], true)
	checkAsk(t, b.l, 4, false)
	checkAll(t, b.l, back(append(slices.Clone(addrs[2:]), 3, 4))...)
}

func TestAllChangesNothing(t *testing.T) {
	d := dice(1)
	b := pair(t, 6)
	for range 200 {
		b.step(t, &d, 9)
		for range 3 {
			b.check(t, "asked several times")
		}
	}
}

func TestNilList(t *testing.T) {
	var l *ghost.List
	for _, a := range edges() {
		for range 2 {
			checkAsk(t, l, a, false)
			checkDrop(t, l, a, false)
			checkAll(t, l)
		}
	}
	l, _ = ghost.New(-1)
	checkAsk(t, l, 1, false)
	checkAsk(t, l, 1, false)
}

func TestListThatNobodyMade(t *testing.T) {
	var l ghost.List
	for _, a := range edges() {
		for range 2 {
			checkAsk(t, &l, a, false)
			checkDrop(t, &l, a, false)
			checkAll(t, &l)
		}
	}
}

// P15.3

// checkBounds checks that a list has no more addresses than it may have, and none twice.
func checkBounds(t *testing.T, l *ghost.List, room int) {
	t.Helper()
	all := l.All()
	if len(all) > room {
		t.Fatalf("%d addresses are in a list for %d", len(all), room)
	}
	slices.Sort(all)
	if n := len(slices.Compact(all)); n < len(all) {
		t.Fatalf("%d addresses are in the list, %d of them once", len(all), n)
	}
}

func TestAnyCalls(t *testing.T) {
	d := dice(2)
	for i := range 300 {
		room := i % 12
		b := pair(t, room)
		for range 120 {
			b.step(t, &d, 1+d.roll(2*room+2))
			b.check(t, "any calls")
			checkBounds(t, b.l, room)
		}
	}
}

func TestManyCalls(t *testing.T) {
	d := dice(3)
	for _, room := range []int{100, 1000, 4096} {
		b := pair(t, room)
		for i := range 30000 {
			b.step(t, &d, room*4)
			if i%500 == 0 {
				b.check(t, "many calls")
				checkBounds(t, b.l, room)
			}
		}
		b.check(t, "many calls")
	}
}

// P15.4

func TestOtherAddressesInBetween(t *testing.T) {
	for _, room := range rooms()[1:] {
		for _, others := range []int{0, 1, room - 2, room - 1, room, room + 1, 2 * room, 3*room + 1} {
			if others < 0 {
				continue
			}
			b := asked(t, room, 7)
			for _, a := range row(50, others) {
				checkAsk(t, b.l, a, false)
			}
			checkAsk(t, b.l, 7, others < room)
			// Full before the address came, it is the same.
			b = asked(t, room, append(row(100000, room+2), 7)...)
			for _, a := range row(50, others) {
				checkAsk(t, b.l, a, false)
			}
			checkAsk(t, b.l, 7, others < room)
		}
	}
}

func TestOtherAddressesThatAreThereDoNotCount(t *testing.T) {
	for _, room := range rooms()[2:] {
		addrs := row(50, room-1)
		b := asked(t, room, append(addrs, 7)...)
		for _, a := range addrs {
			checkAsk(t, b.l, a, true)
		}
		checkAll(t, b.l, 7)
		for _, a := range addrs {
			checkAsk(t, b.l, a, false)
		}
		for range 2 {
			// Of the same ones, each is there or not, as often as they are asked.
			for _, a := range addrs {
				checkAsk(t, b.l, a, true)
				checkAsk(t, b.l, a, false)
			}
		}
		checkAll(t, b.l, append(back(addrs), 7)...)
		checkAsk(t, b.l, 7, true)
	}
}

// call is what was asked of a list or dropped from it, and the answer.
type call struct {
	ask, there bool
	addr       uint32
}

// must tells whether an address must be in a list behind those calls, by P15.4.
func must(calls []call, room int, addr uint32) bool {
	var others []uint32
	for _, c := range slices.Backward(calls) {
		if c.addr == addr {
			// What was removed then is not there.
			return c.ask && !c.there && len(others) < room
		}
		if c.ask && !c.there && !slices.Contains(others, c.addr) {
			others = append(others, c.addr)
		}
	}
	return false
}

func TestAnAddressThatIsRequestedAgainIsThere(t *testing.T) {
	d := dice(4)
	count := 0
	for i := range 200 {
		room := 1 + i%9
		l := pair(t, room).l
		var calls []call
		for range 100 {
			c := call{ask: d.roll(6) > 0, addr: d.addr(2 * room)}
			sure := must(calls, room, c.addr)
			if c.ask {
				c.there = l.Ask(c.addr)
			} else {
				c.there = l.Drop(c.addr)
			}
			if sure && !c.there {
				t.Fatalf("%d is not in the list for %d, behind %v", c.addr, room, calls)
			}
			if sure {
				count++
			}
			calls = append(calls, c)
		}
	}
	if count < 3000 || count > 15000 {
		t.Errorf("%d of 20000 addresses must be there", count)
	}
}

// The chapter's example

func TestExample(t *testing.T) {
	b := pair(t, 2)
	checkAsk(t, b.l, 5, false)
	checkAsk(t, b.l, 7, false)
	checkAsk(t, b.l, 5, true)
	checkAsk(t, b.l, 9, false)
	checkAsk(t, b.l, 11, false)
	checkAll(t, b.l, 11, 9)
	checkAsk(t, b.l, 7, false)
	checkAll(t, b.l, 7, 11)
}

// Rules 4 to 6 of the document

// spoil changes all addresses, those behind the length too.
func spoil(l []uint32) {
	l = l[:cap(l)]
	for i := range l {
		l[i] ^= 5
	}
}

func TestResultsAreTheCallersOwn(t *testing.T) {
	d := dice(5)
	for _, room := range []int{0, 1, 2, 8} {
		b := pair(t, room)
		for range 200 {
			b.step(t, &d, 10)
			one, other := b.l.All(), b.l.All()
			was := slices.Clone(other)
			spoil(one)
			if !slices.Equal(other, was) {
				t.Errorf("two results share memory: %s", differ(other, was))
			}
			b.check(t, "behind a change of results")
			// Nor is there room behind a result that anything else is put into.
			spoil(append(b.l.All(), 77))
			b.check(t, "behind a change of results")
		}
	}
}

func TestResultsStayAsTheyWere(t *testing.T) {
	d := dice(6)
	for range 50 {
		b := pair(t, 10)
		for range 30 {
			b.step(t, &d, 15)
		}
		all, was := b.l.All(), b.r.all()
		for range 40 {
			b.step(t, &d, 15)
		}
		if !slices.Equal(all, was) {
			t.Errorf("a result became %s", differ(all, was))
		}
	}
}

func TestSameCallsSameResults(t *testing.T) {
	// Between the calls on one, the other gets the same.
	one, other := dice(7), dice(7)
	a, b := pair(t, 6), pair(t, 6)
	for range 300 {
		a.step(t, &one, 9)
		b.check(t, "the other")
		b.step(t, &other, 9)
		a.r.check(t, "the other", b.l)
	}
}

func TestSeveralAtATime(t *testing.T) {
	done := make(chan []uint32)
	for range 8 {
		go func() {
			d := dice(8)
			l, _ := ghost.New(50)
			for range 5000 {
				if d.roll(5) > 0 {
					l.Ask(d.addr(80))
				} else {
					l.Drop(d.addr(80))
				}
			}
			done <- l.All()
		}()
	}
	first := <-done
	for range 7 {
		if l := <-done; !slices.Equal(l, first) {
			t.Errorf("the same calls leave %s", differ(l, first))
		}
	}
}
