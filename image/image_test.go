package image_test

import (
	"bytes"
	"fmt"
	"math"
	"slices"
	"testing"

	"pumice/api"
	"pumice/image"
	"pumice/queue"
	"pumice/store"
	"pumice/table"
)

// least returns an image with as little as may be.
func least() api.Image {
	return api.Image{Seq: 1, Page: 1, Next: 1, Opens: 1}
}

// keyOf returns a key of which all bytes differ, and those of two n.
func keyOf(n byte) api.Key {
	k := api.Key{N: 0xC4C3C200 + uint32(n)}
	for i := range k.Sum {
		k.Sum[i] = n + byte(i)
	}
	return k
}

// some returns an image with several elements in each list, and all bytes of a number different.
func some() api.Image {
	return api.Image{
		Seq: 0x1817161514131211, Page: 0x21, Next: 0x3837363534333231, Opens: 0x4847464544434241,
		Writes: []api.Write{
			{Addr: 0xA4A3A2A1, Seq: 0x0706050403020100, Key: keyOf(70)},
			{Addr: 0xA8A7A6A5, Seq: 0x0706050403020101, Trim: true},
			{Addr: 0xA4A3A2A1, Seq: 0x0806050403020100, Key: keyOf(30)},
			{Addr: 7, Seq: 0x3837363534333230, Key: keyOf(70)},
		},
		Chunks: []api.Chunk{
			{Key: keyOf(30), Place: api.Place{Seg: 3, Page: 201, Pages: 202}, Refs: 1},
			{Key: keyOf(70), Place: api.Place{Seg: 1, Page: 203, Pages: 204}, Refs: 2},
		},
		Segs: []api.Segment{
			{Kind: api.SegFree, Wear: 0xD4D3D2D1},
			{Kind: api.SegSealed, Seq: 0x4847464544434240, Wear: 0xD8D7D6D5},
			{Kind: api.SegSealed, Seq: 1},
			{Kind: api.SegOpen, Seq: 0x0827262524232221, Wear: 9},
		},
	}
}

// greatest returns an image of the most bytes that may be: each write has a chunk of its own, and each number is the greatest one that it may be.
func greatest() api.Image {
	i := api.Image{Seq: math.MaxUint64, Page: maxByte, Next: math.MaxUint64, Opens: math.MaxUint64}
	for n := range maxQueue {
		k := api.Key{Sum: api.Sum(bytes.Repeat([]byte{255}, 32)), N: math.MaxUint32 - maxQueue + 1 + uint32(n)}
		i.Writes = append(i.Writes, api.Write{Addr: math.MaxUint32, Seq: math.MaxUint64 - maxQueue + uint64(n), Key: k})
		i.Chunks = append(i.Chunks, api.Chunk{Key: k, Place: api.Place{Seg: maxSegs - 1, Page: maxByte, Pages: maxByte}, Refs: 1})
	}
	for n := range maxSegs {
		i.Segs = append(i.Segs, api.Segment{Kind: api.SegSealed, Seq: math.MaxUint64 - maxSegs + uint64(n), Wear: math.MaxUint32})
	}
	return i
}

// trims returns an image with n writes, all with Trim.
func trims(n int) api.Image {
	i := least()
	for range n {
		i.Writes = append(i.Writes, api.Write{Addr: 5, Seq: i.Next, Trim: true})
		i.Next++
	}
	return i
}

// alike returns an image with n writes that point to the same chunk.
func alike(n int) api.Image {
	i := trims(n)
	for k := range i.Writes {
		i.Writes[k].Trim, i.Writes[k].Key = false, keyOf(9)
	}
	i.Segs, i.Opens = []api.Segment{{Kind: api.SegSealed, Seq: 1}}, 2
	if n > 0 {
		i.Chunks = []api.Chunk{{Key: keyOf(9), Place: api.Place{Page: 1, Pages: 1}, Refs: n}}
	}
	return i
}

// unlike returns an image with n writes that point to a chunk each.
func unlike(n int) api.Image {
	i := alike(n)
	i.Chunks = nil
	for k := range i.Writes {
		i.Writes[k].Key = api.Key{N: uint32(k)}
		i.Chunks = append(i.Chunks, api.Chunk{Key: i.Writes[k].Key, Place: api.Place{Page: 1, Pages: 1}, Refs: 1})
	}
	return i
}

// holding returns an image with a write of each key, and their chunks in the order in which the keys are.
func holding(keys ...api.Key) api.Image {
	i := unlike(len(keys))
	for k := range keys {
		i.Writes[k].Key, i.Chunks[k].Key = keys[k], keys[k]
	}
	return i
}

// of returns what changing an image makes of it.
func of(i api.Image, change func(i *api.Image)) api.Image {
	i = clone(i)
	change(&i)
	return i
}

// told returns an image for a message, if it isn't too long.
func told(i api.Image) string {
	return fmt.Sprintf("%+.400v", fmt.Sprintf("%+v", i))
}

// checkRight checks all that is promised of a valid image and its bytes.
func checkRight(t *testing.T, i api.Image) {
	t.Helper()
	if !valid(i) {
		t.Fatalf("%s is not valid", told(i))
	}
	checkLaid(t, i, encoded(i))
}

// checkLaid checks that an image is valid, and that those are its bytes.
func checkLaid(t *testing.T, i api.Image, want []byte) {
	t.Helper()
	if !image.Right(i) {
		t.Errorf("Right(%s) returns false", told(i))
	}
	if b, err := image.Lay(i); !bytes.Equal(b, want) || err != api.OK {
		t.Errorf("Lay(%s) returns %v, %d; not %v", told(i), b, err, want)
	}
	if x, err := image.Take(want); !same(x, i) || err != api.OK {
		t.Errorf("Take of %s returns %s, %d", told(i), told(x), err)
	}
	if len(want) > maxImage {
		t.Errorf("%d bytes are more than an image has", len(want))
	}
}

// checkWrong checks all that is promised of an image that is not valid, and of the bytes that it would have.
func checkWrong(t *testing.T, i api.Image) {
	t.Helper()
	if valid(i) {
		t.Fatalf("%s is valid", told(i))
	}
	if image.Right(i) {
		t.Errorf("Right(%s) returns true", told(i))
	}
	if b, err := image.Lay(i); len(b) != 0 || err != api.ErrArg {
		t.Errorf("Lay(%s) returns %d bytes, %d", told(i), len(b), err)
	}
	if fitting(i) {
		checkRefused(t, encoded(i))
	}
}

// check checks what is promised of any image.
func check(t *testing.T, i api.Image) {
	t.Helper()
	if valid(i) {
		checkRight(t, i)
	} else {
		checkWrong(t, i)
	}
}

func checkRefused(t *testing.T, b []byte) {
	t.Helper()
	if i, err := image.Take(b); !same(i, api.Image{}) || err != api.ErrImage {
		t.Errorf("Take of %d bytes returns %s, %d", len(b), told(i), err)
	}
}

// eachBit returns the numbers of so many bits of which one is set, 0, and the one with all of them.
func eachBit(bits int) []uint64 {
	l := []uint64{0, math.MaxUint64 >> (64 - bits)}
	for i := range bits {
		l = append(l, 1<<i)
	}
	return l
}

// outside returns numbers that are not from 1 to 255.
func outside() []int {
	return []int{math.MinInt, math.MinInt + 1, math.MinInt32, -256, -255, -128, -2, -1, 0, 256, 257, 511, 512, 1 << 16, 1<<16 + 1, 1<<31 + 1, 1<<32 + 1, 1<<32 + 255, math.MaxInt - 1, math.MaxInt}
}

func TestTheLimits(t *testing.T) {
	if api.MaxQueue != maxQueue || api.MaxSegs != maxSegs || api.MaxImage != maxImage {
		t.Errorf("the limits are %d, %d and %d", api.MaxQueue, api.MaxSegs, api.MaxImage)
	}
}

// P18.1: Seq and Page

func TestRightOfEachSeq(t *testing.T) {
	for _, from := range []api.Image{least(), some(), greatest()} {
		for _, seq := range append(eachBit(64), 2, 3, 255, 256, math.MaxUint64-1) {
			check(t, of(from, func(i *api.Image) { i.Seq = seq }))
		}
		checkWrong(t, of(from, func(i *api.Image) { i.Seq = 0 }))
		checkRight(t, of(from, func(i *api.Image) { i.Seq = 1 }))
		checkRight(t, of(from, func(i *api.Image) { i.Seq = math.MaxUint64 }))
	}
}

func TestRightOfEachPage(t *testing.T) {
	for _, from := range []api.Image{least(), some(), greatest()} {
		for page := 1; page <= 255; page++ {
			checkRight(t, of(from, func(i *api.Image) { i.Page = page }))
		}
		for _, page := range outside() {
			checkWrong(t, of(from, func(i *api.Image) { i.Page = page }))
		}
	}
}

func TestSeqAndPageNeedNotBeThoseOfASegment(t *testing.T) {
	i := some()
	for _, seq := range []uint64{1, 2, i.Opens - 1, i.Opens, i.Opens + 1, i.Segs[3].Seq} {
		checkRight(t, of(i, func(i *api.Image) { i.Seq = seq }))
	}
	// Nor need there be an open one.
	checkRight(t, of(i, func(i *api.Image) { i.Seq, i.Segs[3].Kind = i.Segs[3].Seq, api.SegSealed }))
}

// P18.1: the queue

func TestRightOfEachNumberOfWrites(t *testing.T) {
	for n := range 45 {
		for _, i := range []api.Image{trims(n), alike(n), unlike(n)} {
			if n <= 40 {
				checkRight(t, i)
			} else {
				checkWrong(t, i)
			}
		}
	}
	for _, n := range []int{100, 255, 256, 257, 296, 300, 1 << 16, 1<<16 + 1} {
		checkWrong(t, trims(n))
		checkWrong(t, alike(n))
	}
}

func TestRightRefusesWhatQueueRefuses(t *testing.T) {
	for _, change := range []func(i *api.Image){
		func(i *api.Image) { i.Next = 0 },
		func(i *api.Image) { i.Next = 1 },
		func(i *api.Image) { i.Next = i.Writes[3].Seq },
		func(i *api.Image) { i.Next = i.Writes[3].Seq - 1 },
		func(i *api.Image) { i.Next = i.Writes[0].Seq },
		func(i *api.Image) { i.Writes[0].Seq = 0 },
		func(i *api.Image) { i.Writes[1].Seq = 0 },
		func(i *api.Image) { i.Writes[1].Seq = i.Writes[0].Seq },
		func(i *api.Image) { i.Writes[1].Seq = i.Writes[0].Seq - 1 },
		func(i *api.Image) { i.Writes[2].Seq = i.Writes[3].Seq },
		func(i *api.Image) { i.Writes[3].Seq = i.Next },
		func(i *api.Image) { i.Writes[3].Seq = i.Next + 1 },
		func(i *api.Image) { i.Writes[3].Seq = math.MaxUint64 },
		func(i *api.Image) { i.Writes[0].Seq, i.Writes[1].Seq = i.Writes[1].Seq, i.Writes[0].Seq },
		func(i *api.Image) { i.Writes[1].Key = keyOf(30) },
		func(i *api.Image) { i.Writes[1].Key = keyOf(99) },
		func(i *api.Image) { i.Writes[1].Key = api.Key{N: 1} },
		func(i *api.Image) { i.Writes[1].Key = api.Key{Sum: api.Sum{31: 1}} },
		func(i *api.Image) { i.Writes[3].Trim = true; i.Chunks[1].Refs = 1 },
		func(i *api.Image) { i.Writes[3].Trim = true },
	} {
		i := of(some(), change)
		if _, err := queue.Load(i.Writes, i.Next); err == api.OK {
			t.Errorf("the queue of %s may be", told(i))
		}
		checkWrong(t, i)
	}
	checkWrong(t, of(least(), func(i *api.Image) { i.Next = 0 }))
	checkRight(t, of(some(), func(i *api.Image) { i.Next++ }))
	checkRight(t, of(some(), func(i *api.Image) { i.Next = math.MaxUint64 }))
	checkRight(t, of(least(), func(i *api.Image) { i.Next = math.MaxUint64 }))
}

// P18.1: the table

func TestRightRefusesWhatTableRefuses(t *testing.T) {
	for _, change := range []func(i *api.Image){
		func(i *api.Image) { i.Opens = 0 },
		func(i *api.Image) { i.Opens = 1 },
		func(i *api.Image) { i.Opens = i.Segs[1].Seq },
		func(i *api.Image) { i.Opens = i.Segs[1].Seq - 1 },
		func(i *api.Image) { i.Segs[0].Kind = 3 },
		func(i *api.Image) { i.Segs[2].Kind = 3 },
		func(i *api.Image) { i.Segs[3].Kind = 3 },
		func(i *api.Image) { i.Segs[3].Kind = 128 + 1 },
		func(i *api.Image) { i.Segs[3].Kind = 255 },
		func(i *api.Image) { i.Segs[0].Seq = 2 },
		func(i *api.Image) { i.Segs[2].Kind = api.SegFree },
		func(i *api.Image) { i.Segs[2].Seq = 0 },
		func(i *api.Image) { i.Segs[3].Seq = 0 },
		func(i *api.Image) { i.Segs[2].Seq = i.Opens },
		func(i *api.Image) { i.Segs[3].Seq = i.Opens },
		func(i *api.Image) { i.Segs[3].Seq = math.MaxUint64 },
		func(i *api.Image) { i.Segs[2].Seq = i.Segs[1].Seq },
		func(i *api.Image) { i.Segs[3].Seq = i.Segs[1].Seq },
		func(i *api.Image) { i.Segs[2].Kind = api.SegOpen },
		func(i *api.Image) { i.Segs = append(i.Segs, make([]api.Segment, 253)...) },
		func(i *api.Image) { i.Segs = append(i.Segs, make([]api.Segment, 1<<16-4)...) },
		func(i *api.Image) { i.Segs = append(i.Segs, make([]api.Segment, 1<<16)...) },
	} {
		i := of(some(), change)
		if _, err := table.Load(i.Segs, i.Opens); err == api.OK {
			t.Errorf("the table of %s may be", told(i))
		}
		checkWrong(t, i)
	}
	checkWrong(t, of(least(), func(i *api.Image) { i.Opens = 0 }))
	checkRight(t, of(some(), func(i *api.Image) { i.Opens++ }))
	checkRight(t, of(some(), func(i *api.Image) { i.Opens = math.MaxUint64 }))
	checkRight(t, of(least(), func(i *api.Image) { i.Opens = math.MaxUint64 }))
	checkRight(t, of(some(), func(i *api.Image) { i.Segs[3].Kind = api.SegSealed }))
}

func TestRightOfEachNumberOfSegments(t *testing.T) {
	for n := range 260 {
		free := of(least(), func(i *api.Image) { i.Segs = make([]api.Segment, n) })
		sealed := of(free, func(i *api.Image) {
			for k := range i.Segs {
				i.Segs[k] = api.Segment{Kind: api.SegSealed, Seq: i.Opens}
				i.Opens++
			}
		})
		for _, i := range []api.Image{free, sealed} {
			if n <= 256 {
				checkRight(t, i)
			} else {
				checkWrong(t, i)
			}
		}
	}
}

// P18.1: the store

func TestRightRefusesWhatStoreRefuses(t *testing.T) {
	for _, change := range []func(i *api.Image){
		func(i *api.Image) { i.Chunks = append(i.Chunks, i.Chunks[1]) },
		func(i *api.Image) { i.Chunks = append(i.Chunks, i.Chunks[0]) },
		func(i *api.Image) { i.Chunks = slices.Insert(i.Chunks, 0, i.Chunks[0]) },
		func(i *api.Image) { i.Chunks[0].Key = i.Chunks[1].Key },
		func(i *api.Image) { i.Chunks[0].Key, i.Chunks[0].Refs = i.Chunks[1].Key, 2 },
		func(i *api.Image) { i.Chunks[0].Refs = 0 },
		func(i *api.Image) { i.Chunks[0].Refs = -1 },
		func(i *api.Image) { i.Chunks[1].Refs = math.MinInt },
		func(i *api.Image) { i.Writes = append(i.Writes[:2], i.Writes[3]); i.Chunks[0].Refs = 0 },
		func(i *api.Image) { i.Writes = i.Writes[:0]; i.Chunks[0].Refs, i.Chunks[1].Refs = 0, 0 },
	} {
		i := of(some(), change)
		if _, err := store.Load(i.Chunks); err == api.OK {
			t.Errorf("the store of %s may be", told(i))
		}
		checkWrong(t, i)
	}
}

// ordered returns keys in their order.
func ordered() []api.Key {
	return []api.Key{
		{},
		{N: 1},
		{N: 255},
		{N: 256},
		{N: 1 << 31},
		{N: math.MaxUint32},
		{Sum: api.Sum{31: 1}},
		{Sum: api.Sum{31: 1}, N: 1},
		{Sum: api.Sum{31: 128}},
		{Sum: api.Sum{31: 255}, N: math.MaxUint32},
		{Sum: api.Sum{30: 1}},
		{Sum: api.Sum{8: 1, 31: 1}},
		{Sum: api.Sum{7: 1}, N: 3},
		{Sum: api.Sum{0: 1}},
		{Sum: api.Sum{0: 1, 1: 1}},
		{Sum: api.Sum{0: 2}},
		{Sum: api.Sum{0: 127, 1: 255}},
		{Sum: api.Sum{0: 128}},
		{Sum: api.Sum{0: 255}},
	}
}

func TestRightOfChunksInTheOrderOfTheirKeys(t *testing.T) {
	keys := ordered()
	checkRight(t, holding(keys...))
	for n, a := range keys {
		for k, b := range keys {
			if n < k {
				checkRight(t, holding(a, b))
			} else {
				checkWrong(t, holding(a, b))
			}
		}
	}
}

func TestRightRefusesAnyOtherOrder(t *testing.T) {
	keys := ordered()
	for n := range keys {
		for k := range n {
			checkWrong(t, of(holding(keys...), func(i *api.Image) { i.Chunks[k], i.Chunks[n] = i.Chunks[n], i.Chunks[k] }))
		}
	}
	checkWrong(t, of(holding(keys...), func(i *api.Image) { slices.Reverse(i.Chunks) }))
	checkRight(t, of(holding(keys...), func(i *api.Image) {
		// The order of the writes is that of their numbers.
		for n := range keys {
			i.Writes[n].Key = keys[len(keys)-1-n]
		}
	}))
}

// P18.1: writes and their chunks

func TestRightRefusesAWriteWithoutAChunk(t *testing.T) {
	checkWrong(t, of(alike(1), func(i *api.Image) { i.Chunks = nil }))
	checkWrong(t, of(alike(40), func(i *api.Image) { i.Chunks = nil }))
	for n := range 2 {
		checkWrong(t, of(some(), func(i *api.Image) { i.Chunks = slices.Delete(i.Chunks, n, n+1) }))
	}
	for n := range 40 {
		checkWrong(t, of(greatest(), func(i *api.Image) { i.Chunks = slices.Delete(i.Chunks, n, n+1) }))
	}
	for _, n := range []int{0, 2, 3} {
		// One of them has a chunk that has been counted once more; then none.
		checkWrong(t, of(some(), func(i *api.Image) { i.Writes[n].Key.N++ }))
		checkWrong(t, of(some(), func(i *api.Image) { i.Writes[n].Key.Sum[31]++ }))
		checkWrong(t, of(some(), func(i *api.Image) { i.Writes[n].Key = api.Key{} }))
	}
	for _, extra := range []api.Key{{}, {N: keyOf(9).N}, {Sum: keyOf(9).Sum}, {Sum: keyOf(9).Sum, N: keyOf(9).N + 1}} {
		checkWrong(t, of(alike(3), func(i *api.Image) {
			i.Writes = append(i.Writes, api.Write{Seq: i.Next, Key: extra})
			i.Next++
		}))
	}
}

func TestRightOfTrimsWithoutChunks(t *testing.T) {
	checkRight(t, trims(1))
	checkRight(t, of(some(), func(i *api.Image) {
		i.Writes, i.Chunks = i.Writes[1:2], nil
	}))
	i := of(alike(2), func(i *api.Image) {
		i.Writes = append(i.Writes, api.Write{Seq: i.Next, Trim: true}, api.Write{Seq: i.Next + 1, Trim: true})
		i.Next += 2
	})
	checkRight(t, i)
}

func TestTrimsDoNotCountAsReferences(t *testing.T) {
	// The chunk has the key that a write with Trim has.
	i := of(alike(3), func(i *api.Image) {
		for n := range i.Writes {
			i.Writes[n].Key = api.Key{}
		}
		i.Chunks[0].Key = api.Key{}
	})
	checkRight(t, i)
	for n := range 3 {
		i.Writes[n].Trim = true
		checkWrong(t, i)
		i.Chunks[0].Refs--
		check(t, i)
	}
	i.Chunks = nil
	checkRight(t, i)
}

func TestRightOfEachNumberOfReferences(t *testing.T) {
	for n := 1; n <= 40; n++ {
		for refs := -1; refs <= 300; refs++ {
			i := of(alike(n), func(i *api.Image) { i.Chunks[0].Refs = refs })
			if refs == n {
				checkRight(t, i)
			} else {
				checkWrong(t, i)
			}
		}
		for _, refs := range []int{math.MinInt, -n, n + 256, n + 1<<16, n + 1<<32, n - 1<<32, n + math.MinInt, math.MaxInt} {
			checkWrong(t, of(alike(n), func(i *api.Image) { i.Chunks[0].Refs = refs }))
		}
	}
	for n := range 2 {
		checkWrong(t, of(some(), func(i *api.Image) { i.Chunks[n].Refs-- }))
		checkWrong(t, of(some(), func(i *api.Image) { i.Chunks[n].Refs++ }))
	}
	checkWrong(t, of(some(), func(i *api.Image) { i.Chunks[0].Refs, i.Chunks[1].Refs = 2, 1 }))
}

func TestRightRefusesAChunkWithoutWrites(t *testing.T) {
	checkWrong(t, of(alike(1), func(i *api.Image) { i.Writes = nil }))
	checkWrong(t, of(alike(1), func(i *api.Image) { i.Writes[0].Trim, i.Writes[0].Key = true, api.Key{} }))
	for _, refs := range []int{0, 1, 2} {
		for n := range 3 {
			checkWrong(t, of(some(), func(i *api.Image) {
				k := []api.Key{{}, keyOf(50), keyOf(90)}[n]
				i.Chunks = slices.Insert(i.Chunks, n, api.Chunk{Key: k, Place: i.Chunks[0].Place, Refs: refs})
			}))
		}
	}
	checkWrong(t, of(some(), func(i *api.Image) { i.Writes = slices.Delete(i.Writes, 2, 3) }))
	checkRight(t, of(some(), func(i *api.Image) { i.Writes, i.Chunks = slices.Delete(i.Writes, 2, 3), i.Chunks[1:] }))
}

// P18.1: where the chunks are

func TestRightOfEachSegmentOfAChunk(t *testing.T) {
	for _, n := range []int{1, 2, 3, 255, 256} {
		i := of(alike(1), func(i *api.Image) { i.Segs = make([]api.Segment, n) })
		for _, seg := range []int{0, n / 2, n - 1} {
			for kind := range uint8(4) {
				i := of(i, func(i *api.Image) {
					i.Segs[seg].Kind = kind
					if kind > 0 {
						i.Segs[seg].Seq = 1
					}
					i.Chunks[0].Place.Seg = seg
				})
				if kind == api.SegOpen || kind == api.SegSealed {
					checkRight(t, i)
				} else {
					checkWrong(t, i)
				}
			}
		}
	}
	checkWrong(t, of(alike(1), func(i *api.Image) { i.Segs = nil }))
}

func TestRightRefusesASegmentThatIsNotThere(t *testing.T) {
	for n := range 2 {
		for _, seg := range append(outside(), 4, 5, 255) {
			if seg != 0 {
				checkWrong(t, of(some(), func(i *api.Image) { i.Chunks[n].Place.Seg = seg }))
			}
		}
		checkWrong(t, of(some(), func(i *api.Image) { i.Chunks[n].Place.Seg = 0 }))
	}
	for _, seg := range outside() {
		if seg != 0 {
			checkWrong(t, of(alike(1), func(i *api.Image) { i.Chunks[0].Place.Seg = seg }))
			checkWrong(t, of(greatest(), func(i *api.Image) { i.Chunks[39].Place.Seg = seg }))
		}
	}
}

func TestRightOfEachPageOfAChunk(t *testing.T) {
	for n := range 2 {
		for page := 1; page <= 255; page++ {
			checkRight(t, of(some(), func(i *api.Image) { i.Chunks[n].Place.Page = page }))
			checkRight(t, of(some(), func(i *api.Image) { i.Chunks[n].Place.Pages = page }))
		}
		for _, page := range outside() {
			checkWrong(t, of(some(), func(i *api.Image) { i.Chunks[n].Place.Page = page }))
			checkWrong(t, of(some(), func(i *api.Image) { i.Chunks[n].Place.Pages = page }))
		}
	}
}

func TestChunksMayBeInTheSamePlace(t *testing.T) {
	checkRight(t, of(some(), func(i *api.Image) { i.Chunks[0].Place = i.Chunks[1].Place }))
	checkRight(t, of(some(), func(i *api.Image) { i.Chunks[0].Place = api.Place{Seg: 2, Page: 255, Pages: 255} }))
}

// P18.1: any images

func TestRightOfAnyImages(t *testing.T) {
	d := dice(1)
	right, wrong := 0, 0
	for range 6000 {
		i := d.any()
		check(t, i)
		if valid(i) {
			right++
		} else {
			wrong++
		}
	}
	if right < 1000 || wrong < 1000 {
		t.Errorf("only %d images are valid, and %d are not", right, wrong)
	}
}

// P18.2: Lay

func TestExample(t *testing.T) {
	i := api.Image{Seq: 1, Page: 1, Next: 1, Opens: 1}
	b := []byte{1, 0, 0, 0, 0, 0, 0, 0, 1, 1, 0, 0, 0, 0, 0, 0, 0, 0, 0, 1, 0, 0, 0, 0, 0, 0, 0, 0, 0}
	checkLaid(t, i, seal(b))
	if n := len(seal(b)); n != 8+1+8+1+1+8+2+4 {
		t.Errorf("the example has %d bytes", n)
	}
	checkRefused(t, nil)
	checkRefused(t, []byte{})
}

func TestLayOfAnImageThatIsNotValid(t *testing.T) {
	checkWrong(t, api.Image{})
	checkWrong(t, api.Image{Page: 1, Next: 1, Opens: 1})
	checkWrong(t, api.Image{Seq: 1, Next: 1, Opens: 1})
	checkWrong(t, api.Image{Seq: 1, Page: 1, Opens: 1})
	checkWrong(t, api.Image{Seq: 1, Page: 1, Next: 1})
}

func TestLayOfSomeImage(t *testing.T) {
	sum30 := []byte{
		30, 31, 32, 33, 34, 35, 36, 37, 38, 39, 40, 41, 42, 43, 44, 45,
		46, 47, 48, 49, 50, 51, 52, 53, 54, 55, 56, 57, 58, 59, 60, 61, 30, 0xC2, 0xC3, 0xC4}
	sum70 := []byte{
		70, 71, 72, 73, 74, 75, 76, 77, 78, 79, 80, 81, 82, 83, 84, 85,
		86, 87, 88, 89, 90, 91, 92, 93, 94, 95, 96, 97, 98, 99, 100, 101, 70, 0xC2, 0xC3, 0xC4}
	want := slices.Concat(
		[]byte{0x11, 0x12, 0x13, 0x14, 0x15, 0x16, 0x17, 0x18, 0x21},
		[]byte{0x31, 0x32, 0x33, 0x34, 0x35, 0x36, 0x37, 0x38, 4},
		[]byte{0xA1, 0xA2, 0xA3, 0xA4, 0, 1, 2, 3, 4, 5, 6, 7, 0}, sum70,
		[]byte{0xA5, 0xA6, 0xA7, 0xA8, 1, 1, 2, 3, 4, 5, 6, 7, 1},
		[]byte{0xA1, 0xA2, 0xA3, 0xA4, 0, 1, 2, 3, 4, 5, 6, 8, 0}, sum30,
		[]byte{7, 0, 0, 0, 0x30, 0x32, 0x33, 0x34, 0x35, 0x36, 0x37, 0x38, 0}, sum70,
		[]byte{2}, sum30, []byte{3, 201, 202, 1}, sum70, []byte{1, 203, 204, 2},
		[]byte{0x41, 0x42, 0x43, 0x44, 0x45, 0x46, 0x47, 0x48, 4, 0},
		[]byte{0, 0, 0, 0, 0, 0, 0, 0, 0, 0xD1, 0xD2, 0xD3, 0xD4},
		[]byte{2, 0x40, 0x42, 0x43, 0x44, 0x45, 0x46, 0x47, 0x48, 0xD5, 0xD6, 0xD7, 0xD8},
		[]byte{2, 1, 0, 0, 0, 0, 0, 0, 0, 0, 0, 0, 0},
		[]byte{1, 0x21, 0x22, 0x23, 0x24, 0x25, 0x26, 0x27, 0x08, 9, 0, 0, 0},
	)
	checkLaid(t, some(), seal(want))
}

func TestLayOfTheGreatestImage(t *testing.T) {
	b, err := image.Lay(greatest())
	if err != api.OK || len(b) != headSize+40*writeSize+1+40*chunkSize+10+256*segSize+sumSize || len(b) > api.MaxImage {
		t.Errorf("the greatest image has %d bytes, %d", len(b), err)
	}
	checkRight(t, greatest())
	// With 256 segments, their number has a byte 1 in its second place.
	at := headSize + 40*writeSize + 1 + 40*chunkSize + 8
	if b[headSize-1] != 40 || b[headSize+40*writeSize] != 40 || b[at] != 0 || b[at+1] != 1 {
		t.Errorf("the numbers of elements are %d, %d and %d", b[headSize-1], b[headSize+40*writeSize], b[at:at+2])
	}
}

func TestLayOfATrimAndOfAWrite(t *testing.T) {
	b, _ := image.Lay(trims(1))
	if want := []byte{1, 5, 0, 0, 0, 1, 0, 0, 0, 0, 0, 0, 0, 1, 0}; !bytes.Equal(b[headSize-1:headSize+trimSize+1], want) {
		t.Errorf("a write with Trim is %v", b)
	}
	b, _ = image.Lay(holding(api.Key{Sum: api.Sum{0: 7, 31: 8}, N: 9}))
	want := slices.Concat([]byte{1, 5, 0, 0, 0, 1, 0, 0, 0, 0, 0, 0, 0, 0, 7}, make([]byte, 30), []byte{8, 9, 0, 0, 0, 1, 7})
	if !bytes.Equal(b[headSize-1:headSize+writeSize+2], want) {
		t.Errorf("a write without Trim is %v", b)
	}
	checkRight(t, trims(1))
	checkRight(t, holding(api.Key{Sum: api.Sum{0: 7, 31: 8}, N: 9}))
}

func TestLayOfEachBitOfANumber(t *testing.T) {
	for _, n := range eachBit(64) {
		check(t, of(some(), func(i *api.Image) { i.Seq = n }))
		check(t, of(least(), func(i *api.Image) { i.Next = n }))
		check(t, of(least(), func(i *api.Image) { i.Opens = n }))
		check(t, of(trims(1), func(i *api.Image) { i.Writes[0].Seq, i.Next = n, math.MaxUint64 }))
		for kind := range uint8(3) {
			check(t, of(least(), func(i *api.Image) {
				i.Segs, i.Opens = []api.Segment{{Kind: kind, Seq: n}}, math.MaxUint64
			}))
		}
	}
	for _, n := range eachBit(32) {
		checkRight(t, of(some(), func(i *api.Image) { i.Writes[0].Addr = uint32(n) }))
		checkRight(t, of(some(), func(i *api.Image) { i.Writes[1].Addr = uint32(n) }))
		checkRight(t, of(some(), func(i *api.Image) { i.Writes[3].Addr = uint32(n) }))
		checkRight(t, holding(api.Key{N: uint32(n)}))
		for k := range 4 {
			checkRight(t, of(some(), func(i *api.Image) { i.Segs[k].Wear = uint32(n) }))
		}
	}
}

func TestLayOfEachBitOfASum(t *testing.T) {
	for n := range 256 {
		var k api.Key
		k.Sum[n/8] = 1 << (n % 8)
		checkRight(t, holding(k))
	}
}

func TestLayOfEachSegmentOfAChunk(t *testing.T) {
	for seg := range 256 {
		checkRight(t, of(greatest(), func(i *api.Image) { i.Chunks[seg%40].Place.Seg = seg }))
	}
}

// P18.2: Take

func TestTakeRefusesShortBytes(t *testing.T) {
	for n := range 1 << 16 {
		checkRefused(t, []byte{byte(n), byte(n >> 8)})
	}
	for c := range 256 {
		checkRefused(t, []byte{byte(c)})
		checkRefused(t, seal([]byte{byte(c)}))
	}
	for n := range 300 {
		checkRefused(t, make([]byte, n))
		checkRefused(t, seal(make([]byte, n)))
		checkRefused(t, bytes.Repeat([]byte{255}, n))
		checkRefused(t, seal(bytes.Repeat([]byte{255}, n)))
	}
}

func TestTakeRefusesAnotherSum(t *testing.T) {
	for _, i := range []api.Image{least(), some(), greatest()} {
		b := body(i)
		checkRefused(t, b)
		checkRefused(t, slices.Concat(b, make([]byte, 4)))
		s := seal(b)[len(b):]
		slices.Reverse(s)
		checkRefused(t, slices.Concat(b, s))
		checkRefused(t, slices.Concat(s, b))
		checkRefused(t, seal(seal(b)))
	}
}

// counts returns where the bytes of an image have the numbers of elements.
func counts(i api.Image) (writes, chunks, segs int) {
	chunks = headSize
	for _, w := range i.Writes {
		if w.Trim {
			chunks += trimSize
		} else {
			chunks += writeSize
		}
	}
	return headSize - 1, chunks, chunks + 1 + len(i.Chunks)*chunkSize + 8
}

func TestTakeRefusesOtherCounts(t *testing.T) {
	for _, i := range []api.Image{least(), some(), trims(3), alike(5), unlike(5), trims(40), greatest()} {
		writes, chunks, segs := counts(i)
		for _, at := range []int{writes, chunks, segs, segs + 1} {
			for _, more := range []byte{1, 2, 3, 5, 40, 127, 128, 129, 250, 253, 254, 255} {
				b := body(i)
				b[at] += more
				checkRefused(t, seal(b))
			}
		}
	}
}

func TestTakeRefusesOtherTrims(t *testing.T) {
	// A write's Trim is at the same place behind its number, whether it has a key or not.
	for _, i := range []api.Image{trims(1), trims(3), alike(1), unlike(3), some()} {
		for c := range 256 {
			b := body(i)
			if was := b[headSize+12]; was == byte(c) {
				continue
			}
			b[headSize+12] = byte(c)
			checkRefused(t, seal(b))
		}
	}
	for c := 2; c < 256; c++ {
		b := body(some())
		b[headSize+writeSize+12] = byte(c)
		checkRefused(t, seal(b))
	}
}

func TestTakeRefusesATrimWithAKey(t *testing.T) {
	for _, key := range []api.Key{{}, keyOf(3)} {
		b := body(holding(key))
		b[headSize+12] = 1
		checkRefused(t, seal(b))
	}
}

func TestTakeRefusesOtherKinds(t *testing.T) {
	i := some()
	_, _, segs := counts(i)
	for n := range i.Segs {
		for kind := range 256 {
			b := body(i)
			b[segs+2+n*segSize] = byte(kind)
			got, err := image.Take(seal(b))
			want, ok := decoded(seal(b))
			if ok != (err == api.OK) || !same(got, want) || ok != (kind == int(i.Segs[n].Kind) || n == 3 && kind == 2) {
				t.Errorf("with a segment %d of kind %d, Take returns %s, %d", n, kind, told(got), err)
			}
		}
	}
}

func TestTakeRefusesBytesBehindTheLastField(t *testing.T) {
	for _, i := range []api.Image{least(), some(), greatest()} {
		for c := range 256 {
			checkRefused(t, seal(append(body(i), byte(c))))
		}
		for _, more := range [][]byte{{0, 0}, make([]byte, 13), make([]byte, 100), encoded(i), make([]byte, 10000)} {
			checkRefused(t, seal(slices.Concat(body(i), more)))
		}
	}
}

func TestTakeRefusesFieldsThatEndTooEarly(t *testing.T) {
	for _, i := range []api.Image{least(), some(), trims(2), unlike(3)} {
		b := body(i)
		for n := range b {
			checkRefused(t, seal(b[:n]))
		}
	}
}

func TestTakeOfEachByteChanged(t *testing.T) {
	taken := 0
	for _, i := range []api.Image{least(), some(), trims(3), alike(3), unlike(3)} {
		b := body(i)
		for at := range b {
			was := b[at]
			for _, c := range []byte{0, 1, 2, 3, 127, 255, was - 1, was + 1, was ^ 2, was ^ 4, was ^ 8, was ^ 16, was ^ 32, was ^ 64, was ^ 128} {
				changed := bytes.Clone(b)
				changed[at] = c
				got, err := image.Take(seal(changed))
				want, ok := decoded(seal(changed))
				if ok != (err == api.OK) || !same(got, want) || !ok && err != api.ErrImage {
					t.Fatalf("with a byte %d at %d of %s, Take returns %s, %d", c, at, told(i), told(got), err)
				}
				if ok {
					taken++
				}
			}
		}
	}
	if taken < 1000 {
		t.Errorf("only %d of the changed images are taken", taken)
	}
}

func TestTakeOfAnyBytes(t *testing.T) {
	d := dice(2)
	taken, refused := 0, 0
	for range 6000 {
		b := d.encoding()
		got, err := image.Take(b)
		want, ok := decoded(b)
		if ok != (err == api.OK) || !same(got, want) || !ok && err != api.ErrImage {
			t.Errorf("Take(%v) returns %s, %d", b, told(got), err)
		}
		if ok {
			taken++
		} else {
			refused++
		}
	}
	if taken < 1000 || refused < 1000 {
		t.Errorf("only %d are taken, and %d refused", taken, refused)
	}
}

// P18.3

func TestTakeOfLayIsTheImage(t *testing.T) {
	d := dice(3)
	longest := 0
	for range 3000 {
		i := d.image()
		b, err := image.Lay(i)
		got, wrong := image.Take(b)
		if err != api.OK || wrong != api.OK || !same(got, i) {
			t.Errorf("Lay(%s) returns %d; Take of that %s, %d", told(i), err, told(got), wrong)
		}
		if len(b) > api.MaxImage {
			t.Errorf("Lay(%s) returns %d bytes", told(i), len(b))
		}
		longest = max(longest, len(b))
	}
	if longest < 5000 {
		t.Errorf("the longest image has only %d bytes", longest)
	}
}

func TestLayOfTakeIsTheBytes(t *testing.T) {
	d := dice(4)
	for range 6000 {
		b := d.encoding()
		i, err := image.Take(b)
		if err != api.OK {
			continue
		}
		if back, err := image.Lay(i); err != api.OK || !bytes.Equal(back, b) {
			t.Errorf("Take(%v) returns %s; Lay of that %v, %d", b, told(i), back, err)
		}
	}
}

func TestNoTwoImagesHaveTheSameBytes(t *testing.T) {
	d := dice(5)
	seen := map[string]api.Image{}
	for range 3000 {
		i := d.any()
		b, err := image.Lay(i)
		if err != api.OK {
			continue
		}
		if other, there := seen[string(b)]; there && !same(i, other) {
			t.Errorf("%s and %s have the same bytes", told(i), told(other))
		}
		seen[string(b)] = i
	}
}

// P18.4

func TestTakeRefusesATruncatedImage(t *testing.T) {
	d := dice(6)
	images := []api.Image{least(), some(), greatest(), trims(1), alike(40), unlike(40)}
	for range 20 {
		images = append(images, d.image())
	}
	for _, i := range images {
		b := encoded(i)
		for n := range b {
			checkRefused(t, b[:n])
		}
	}
}

func TestTakeRefusesABeginningWithASumThatFits(t *testing.T) {
	// The bytes that end the beginning are the sum of those ahead of them.
	i := some()
	for n := headSize; n < len(body(i)); n += 7 {
		b := slices.Concat(seal(body(i)[:n]), []byte{1, 2, 3})
		checkRefused(t, b[:n+4])
	}
}

func TestTakeRefusesMoreBytes(t *testing.T) {
	d := dice(7)
	images := []api.Image{least(), some(), greatest(), trims(1)}
	for range 20 {
		images = append(images, d.image())
	}
	for _, i := range images {
		b := encoded(i)
		for c := range 256 {
			checkRefused(t, slices.Concat(b, []byte{byte(c)}))
		}
		for _, more := range [][]byte{make([]byte, 4), make([]byte, 13), b, b[len(b)-4:], {0x1C, 0xDF, 0x44, 0x21}} {
			checkRefused(t, slices.Concat(b, more))
		}
	}
}

// invert inverts the bits of b that are set in mask, from bit at on, counted from the least significant bit of each byte on.
func invert(b []byte, at int, mask uint32) []byte {
	b = bytes.Clone(b)
	for k := range 32 {
		if mask>>k&1 == 1 && at+k < 8*len(b) {
			b[(at+k)/8] ^= 1 << ((at + k) % 8)
		}
	}
	return b
}

func TestTakeRefusesAnInvertedBit(t *testing.T) {
	for _, i := range []api.Image{least(), some(), trims(3), alike(3), unlike(3)} {
		b := encoded(i)
		for at := range 8 * len(b) {
			checkRefused(t, invert(b, at, 1))
		}
	}
	b := encoded(greatest())
	for at := 0; at < 8*len(b); at += 7 {
		checkRefused(t, invert(b, at, 1))
	}
}

func TestTakeRefusesInvertedBits(t *testing.T) {
	d := dice(8)
	images := []api.Image{least(), some(), trims(3), alike(3), unlike(3), greatest()}
	for range 30 {
		images = append(images, d.image())
	}
	for _, i := range images {
		b := encoded(i)
		for range 400 {
			checkRefused(t, invert(b, d.roll(8*len(b)), uint32(value(d.bytes(4)))|1))
		}
	}
	b := encoded(some())
	for at := range 8 * len(b) {
		for n := range 32 {
			checkRefused(t, invert(b, at, math.MaxUint32>>n))
		}
	}
}

// Rules 3 to 6 of the document

// guard is elements between others.
type guard[T any] struct{ array []T }

// inner returns the elements, with those behind them in their capacity.
func (g guard[T]) inner(n int) []T {
	return g.array[2 : 2+n : len(g.array)]
}

// guarded returns the elements between others that are not zero.
func guarded[T any](l []T, other T) guard[T] {
	return guard[T]{slices.Concat([]T{other, other}, l, []T{other, other, other})}
}

func TestImagesHandedInAreNeitherChangedNorReadBeyondTheirLength(t *testing.T) {
	d := dice(9)
	for range 2000 {
		i := d.any()
		want := clone(i)
		writes := guarded(i.Writes, api.Write{Addr: 9, Seq: 9, Key: keyOf(9)})
		chunks := guarded(i.Chunks, api.Chunk{Key: keyOf(9), Refs: 9})
		segs := guarded(i.Segs, api.Segment{Kind: 9, Seq: 9})
		i.Writes, i.Chunks, i.Segs = writes.inner(len(i.Writes)), chunks.inner(len(i.Chunks)), segs.inner(len(i.Segs))
		w, c, s := slices.Clone(writes.array), slices.Clone(chunks.array), slices.Clone(segs.array)
		check(t, i)
		if !same(i, want) || !slices.Equal(w, writes.array) || !slices.Equal(c, chunks.array) || !slices.Equal(s, segs.array) {
			t.Fatalf("%s was changed", told(want))
		}
	}
}

func TestBytesHandedInAreNeitherChangedNorReadBeyondTheirLength(t *testing.T) {
	d := dice(10)
	for range 2000 {
		b := d.encoding()
		g := guarded(b, 7)
		was := bytes.Clone(g.array)
		got, err := image.Take(g.inner(len(b)))
		if want, ok := decoded(b); ok != (err == api.OK) || !same(got, want) {
			t.Errorf("Take(%v) returns %s, %d", b, told(got), err)
		}
		if !bytes.Equal(g.array, was) {
			t.Fatalf("the bytes %v were changed", b)
		}
	}
	b := append(encoded(some()), 1, 2, 3)
	if i, err := image.Take(b[:len(b)-3]); err != api.OK || !same(i, some()) {
		t.Errorf("Take returns %s, %d", told(i), err)
	}
	checkRefused(t, b[:0])
	checkRefused(t, b[:len(b)-4])
}

// spoil changes all elements of the lists of an image, those behind their lengths too.
func spoil(i api.Image) {
	for k := range i.Writes[:cap(i.Writes)] {
		i.Writes[:cap(i.Writes)][k].Addr ^= 5
	}
	for k := range i.Chunks[:cap(i.Chunks)] {
		i.Chunks[:cap(i.Chunks)][k].Refs ^= 5
	}
	for k := range i.Segs[:cap(i.Segs)] {
		i.Segs[:cap(i.Segs)][k].Wear ^= 5
	}
}

// invertAll changes all bytes, those behind the length too.
func invertAll(b []byte) {
	b = b[:cap(b)]
	for k := range b {
		b[k] ^= 255
	}
}

func TestAnImageIsTheCallersOwn(t *testing.T) {
	d := dice(11)
	for range 1000 {
		want := d.image()
		b := encoded(want)
		one, _ := image.Take(b)
		other, _ := image.Take(b)
		spoil(one)
		if !same(other, want) || !bytes.Equal(b, encoded(want)) {
			t.Fatalf("%s shares memory with another one, or with its bytes", told(want))
		}
		invertAll(b)
		if !same(other, want) {
			t.Fatalf("%s keeps its bytes", told(want))
		}
	}
}

func TestTheBytesOfAnImageAreTheCallersOwn(t *testing.T) {
	d := dice(12)
	for range 1000 {
		i := d.image()
		was, want := clone(i), encoded(i)
		one, _ := image.Lay(i)
		other, _ := image.Lay(i)
		invertAll(one)
		if !bytes.Equal(other, want) || !same(i, was) {
			t.Fatalf("the bytes of %s share memory with others", told(was))
		}
		spoil(i)
		if !bytes.Equal(other, want) {
			t.Fatalf("the bytes of %s keep its lists", told(was))
		}
	}
}

func TestEmptyListsAreNilOnes(t *testing.T) {
	i := least()
	i.Writes, i.Chunks, i.Segs = make([]api.Write, 0, 9), make([]api.Chunk, 0, 9), []api.Segment{}
	checkRight(t, i)
	checkLaid(t, i, encoded(least()))
	checkWrong(t, of(i, func(i *api.Image) { i.Page = 0 }))
}

func TestTheSameCallsReturnTheSame(t *testing.T) {
	d := dice(13)
	for range 1000 {
		i, b := d.any(), d.encoding()
		one, err := image.Lay(i)
		got, wrong := image.Take(b)
		// What is called in between changes nothing.
		image.Right(d.any())
		image.Lay(d.any())
		image.Take(d.encoding())
		two, again := image.Lay(i)
		more, still := image.Take(b)
		if !bytes.Equal(one, two) || err != again || !same(got, more) || wrong != still {
			t.Errorf("Lay(%s) or Take(%v) returns something else the second time", told(i), b)
		}
	}
}

func TestSeveralAtATime(t *testing.T) {
	done := make(chan bool)
	for n := range 8 {
		go func() {
			d := dice(100 + n)
			ok := true
			for range 200 {
				i := d.image()
				b, err := image.Lay(i)
				got, wrong := image.Take(b)
				ok = ok && image.Right(i) && err == api.OK && wrong == api.OK && same(got, i)
			}
			done <- ok
		}()
	}
	for range 8 {
		if !<-done {
			t.Error("Right, Lay or Take returns something else when others call it, too")
		}
	}
}
