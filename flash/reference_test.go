package flash_test

import (
	"bytes"
	"maps"
	"slices"
	"testing"

	"pumice/api"
	"pumice/flash"
)

// place is a page: its segment, and its number there.
type place struct{ seg, page int }

// deed is a Program, or an Erase if it has no bytes.
type deed struct {
	seg, page int
	b         []byte
}

// reference is a flash in a plain way: what was safe, and what was done since; what the pages are now follows from both each time.
type reference struct {
	segs, pages int
	safe        map[place][]byte // a page that is none of these is erased
	since       []deed
	wear        map[int]int
	done        int
	dead        bool
	cut         int // how many operations are done until the power goes off; -1 if it does not
}

func refer(segs, pages int) *reference {
	return &reference{segs: segs, pages: pages, safe: map[place][]byte{}, wear: map[int]int{}, cut: -1}
}

// everything is the fate with which all of a deed is done, and nothing the one with which nothing is.
func everything(int) int { return 1000 }
func nothing(int) int    { return 0 }

// after returns the pages after each deed was done to the extent of its fate.
func (r *reference) after(fate func(i int) int) map[place][]byte {
	all := maps.Clone(r.safe)
	for i, d := range r.since {
		n := max(fate(i), 0)
		if d.b != nil {
			all[place{d.seg, d.page}] = torn(n, d.b, pageOf(all, d.seg, d.page))
			continue
		}
		for page := 0; page < r.pages && page < n; page++ {
			delete(all, place{d.seg, page})
		}
	}
	return all
}

func pageOf(all map[place][]byte, seg, page int) []byte {
	if b, ok := all[place{seg, page}]; ok {
		return b
	}
	return filled(255)
}

// power counts an operation, unless the power is off or goes off before it.
func (r *reference) power() api.Errno {
	r.dead = r.dead || r.cut == 0
	if r.dead {
		return api.ErrDead
	}
	if r.cut > 0 {
		r.cut--
	}
	r.done++
	return api.OK
}

func (r *reference) read(seg, page int) ([]byte, api.Errno) {
	if seg < 0 || page < 0 || seg >= r.segs || page >= r.pages {
		return nil, api.ErrArg
	}
	if r.dead {
		return nil, api.ErrDead
	}
	return pageOf(r.after(everything), seg, page), api.OK
}

func (r *reference) program(seg, page int, b []byte) api.Errno {
	was, err := r.read(seg, page)
	if err == api.ErrArg || len(b) != pageSize {
		return api.ErrArg
	}
	if err == api.OK && !bytes.Equal(was, filled(255)) {
		return api.ErrWritten
	}
	if err := r.power(); err != api.OK {
		return err
	}
	r.since = append(r.since, deed{seg, page, bytes.Clone(b)})
	return api.OK
}

func (r *reference) erase(seg int) api.Errno {
	if seg < 0 || seg >= r.segs {
		return api.ErrArg
	}
	if err := r.power(); err != api.OK {
		return err
	}
	r.wear[seg]++
	r.since = append(r.since, deed{seg: seg})
	return api.OK
}

func (r *reference) barrier() api.Errno {
	if err := r.power(); err != api.OK {
		return err
	}
	r.safe, r.since = r.after(everything), nil
	return api.OK
}

func (r *reference) cutAfter(n int) {
	if !r.dead {
		r.cut = max(n, -1)
	}
}

func (r *reference) crash(fates []int) {
	r.safe = r.after(func(i int) int {
		if i < len(fates) {
			return fates[i]
		}
		return 0
	})
	r.since, r.dead, r.cut = nil, false, -1
}

func (r *reference) copy() *reference {
	c := *r
	c.safe, c.wear, c.since = maps.Clone(r.safe), maps.Clone(r.wear), slices.Clone(r.since)
	return &c
}

// check checks all that can be asked of a flash.
func (r *reference) check(t *testing.T, what string, f *flash.Flash) {
	t.Helper()
	if f.Segs() != r.segs || f.Pages() != r.pages || f.Done() != r.done || f.Dead() != r.dead {
		t.Fatalf("%s: %d segments, %d pages, %d done, dead: %t; not %d, %d, %d, %t", what, f.Segs(), f.Pages(), f.Done(), f.Dead(), r.segs, r.pages, r.done, r.dead)
	}
	now := r.after(everything)
	for seg := -1; seg <= r.segs; seg++ {
		if got := f.Wear(seg); got != r.wear[seg] {
			t.Fatalf("%s: Wear(%d) is %d, not %d", what, seg, got, r.wear[seg])
		}
		for page := -1; page <= r.pages; page++ {
			want, err := pageOf(now, seg, page), api.OK
			switch {
			case seg < 0 || seg == r.segs || page < 0 || page == r.pages:
				want, err = nil, api.ErrArg
			case r.dead:
				want, err = nil, api.ErrDead
			}
			if b, e := f.Read(seg, page); !bytes.Equal(b, want) || e != err {
				t.Fatalf("%s: Read(%d, %d) is %v, %d, not %v, %d", what, seg, page, b, e, want, err)
			}
		}
	}
}

// both is a flash, and the reference that goes with it.
type both struct {
	f *flash.Flash
	r *reference
}

func pair(t *testing.T, segs, pages int) both {
	t.Helper()
	return both{create(t, segs, pages), refer(segs, pages)}
}

func (x both) copy() both {
	return both{x.f.Copy(), x.r.copy()}
}

func (x both) check(t *testing.T, what string) {
	t.Helper()
	x.r.check(t, what, x.f)
}

// program, erase, barrier and crash do the same to both, and check what was answered and all that can be asked.
func (x both) program(t *testing.T, seg, page int, b []byte) api.Errno {
	t.Helper()
	return x.compare(t, "Program", x.f.Program(seg, page, b), x.r.program(seg, page, b))
}

func (x both) erase(t *testing.T, seg int) api.Errno {
	t.Helper()
	return x.compare(t, "Erase", x.f.Erase(seg), x.r.erase(seg))
}

func (x both) barrier(t *testing.T) api.Errno {
	t.Helper()
	return x.compare(t, "Barrier", x.f.Barrier(), x.r.barrier())
}

func (x both) crash(t *testing.T, fates ...int) {
	t.Helper()
	x.f.Crash(fates)
	x.r.crash(fates)
	x.check(t, "behind Crash")
}

func (x both) cut(t *testing.T, after int) {
	t.Helper()
	x.f.Cut(after)
	x.r.cutAfter(after)
	x.check(t, "behind Cut")
}

func (x both) compare(t *testing.T, what string, got, want api.Errno) api.Errno {
	t.Helper()
	if got != want {
		t.Fatalf("%s returns %d, not %d", what, got, want)
	}
	x.check(t, "behind "+what)
	return got
}

// dice yields numbers in no order to speak of, the same ones each time.
type dice uint32

func (d *dice) roll(n int) int {
	*d = *d*1664525 + 1013904223
	return int(*d>>16) % n
}

// fates returns some fates: some of them too great, some negative.
func (d *dice) fates() []int {
	l := make([]int, d.roll(8))
	for i := range l {
		l[i] = []int{0, 1, 2, d.roll(128), 127, 128, 129, 1 << 40, -1 - d.roll(200)}[d.roll(9)]
	}
	return l
}

// page returns the bytes of a page; now and then erased ones, or such as are nearly so, or too few or too many.
func (d *dice) page() []byte {
	b := striped(d.roll(100))
	switch d.roll(10) {
	case 0:
		return filled(255)
	case 1:
		return torn(d.roll(128), filled(255), b)
	case 2:
		return torn(d.roll(128), b, filled(255))
	case 3:
		return append(b, b...)[:d.roll(200)]
	}
	return b
}

// step makes a call that the dice choose.
func (x both) step(t *testing.T, d *dice) {
	t.Helper()
	seg, page := d.roll(x.r.segs+2)-1, d.roll(x.r.pages+2)-1
	switch d.roll(12) {
	case 0:
		x.barrier(t)
	case 1:
		x.crash(t, d.fates()...)
	case 2:
		x.cut(t, d.roll(12)-3)
	case 3, 4, 5:
		x.erase(t, seg)
	default:
		x.program(t, seg, page, d.page())
	}
}
