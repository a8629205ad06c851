package pool

import (
	"fmt"
	"math"
	"slices"
	"strings"
	"testing"

	"concordance/api"
	"concordance/device"
	"concordance/page"
	"concordance/twin"
)

// bytesOf a page with an LSN and a name.
func bytesOf(lsn int, name string) string {
	return page.Build(lsn, name+strings.Repeat("\x00", 496-len(name)))
}

var noughts = strings.Repeat("\x00", api.Page)

// notWhole are bytes of no page.
func notWhole() []string {
	good := bytesOf(3, "good")
	return []string{"", good[1:], good + "\x00", good[:256] + noughts[256:], good[:256] + bytesOf(4, "good")[256:], noughts[1:], strings.Repeat("x", api.Page)}
}

// base of a pool: pages on a device, and a log that lasts as it is told.
type base struct {
	t     *testing.T
	d     *device.Device
	a     *twin.Area
	p     *Pool
	asked []int     // of flush
	fails api.Errno // what flush answers
}

const (
	slots = 2
	from  = 3 * slots
)

// based has a pool over so many pages, each of which has its number for its LSN.
func based(t *testing.T, pages, frames int) *base {
	t.Helper()
	b := &base{t: t}
	b.d, _ = device.New(from + 2*pages)
	b.a, _ = twin.New(b.d, 0, slots, from, pages)
	for n := range pages {
		b.laid(n, first(n))
	}
	p, e := New(b.a, frames, func(lsn int) api.Errno {
		b.asked = append(b.asked, lsn)
		return b.fails
	})
	if e != api.OK || p == nil {
		t.Fatal("New", e)
	}
	b.p = p
	return b
}

// first bytes of a page.
func first(n int) string {
	return bytesOf(n, fmt.Sprint("first ", n))
}

// laid lays a page's bytes on the device, whatever they are, beside the pool.
func (b *base) laid(n int, bytes string) {
	b.d.Write(from+2*n, bytes[:api.Sector])
	b.d.Write(from+2*n+1, bytes[api.Sector:])
	b.d.Sync()
}

func (b *base) pins(pages ...int) {
	b.t.Helper()
	for _, n := range pages {
		if s, e := b.p.Pin(n); !page.Whole(s) || e != api.OK {
			b.t.Errorf("Pin %d: %.12q %d", n, s, e)
		}
	}
}

func (b *base) unpins(pages ...int) {
	b.t.Helper()
	for _, n := range pages {
		if e := b.p.Unpin(n); e != api.OK {
			b.t.Errorf("Unpin %d: %d", n, e)
		}
	}
}

func (b *base) puts(n int, bytes string) {
	b.t.Helper()
	if e := b.p.Put(n, bytes); e != api.OK {
		b.t.Errorf("Put %d: %d", n, e)
	}
}

// dirties a page that isn't pinned then.
func (b *base) dirties(n int, bytes string) {
	b.t.Helper()
	b.pins(n)
	b.puts(n, bytes)
	b.unpins(n)
}

func (b *base) notPinned(n int, want api.Errno) {
	b.t.Helper()
	if s, e := b.p.Pin(n); s != "" || e != want {
		b.t.Errorf("Pin %d: %.12q %d, not %d", n, s, e, want)
	}
}

// answers tells where an answer is another one.
func (b *base) answers(e, want api.Errno) {
	b.t.Helper()
	if e != want {
		b.t.Errorf("%d, not %d", e, want)
	}
}

// holds tells where other pages are held, or dirty.
func (b *base) holds(held, dirty []int) {
	b.t.Helper()
	h, d := b.p.Held()
	if !slices.Equal(h, held) || !slices.Equal(d, dirty) {
		b.t.Errorf("Held: %v %v, not %v %v", h, d, held, dirty)
	}
	for n := -1; n <= b.a.Pages(); n++ {
		if b.p.Has(n) != slices.Contains(held, n) {
			b.t.Errorf("Has %d: %v", n, b.p.Has(n))
		}
	}
}

// askedOnly tells where flush was asked otherwise, since it was told last.
func (b *base) askedOnly(lsns ...int) {
	b.t.Helper()
	if !slices.Equal(b.asked, lsns) {
		b.t.Errorf("flush was asked of %v, not %v", b.asked, lsns)
	}
	b.asked = nil
}

// stored tells where a page has other bytes on the device.
func (b *base) stored(n int, want string) {
	b.t.Helper()
	if s, e := b.a.Read(n); s != want || e != api.OK {
		b.t.Errorf("page %d on the device: %.20q %d, not %.20q", n, s, e, want)
	}
}

// commands that were done.
func (b *base) commands() int {
	_, done := b.d.Open()
	return done
}

func numbers(from, to int) []int {
	var l []int
	for n := from; n < to; n++ {
		l = append(l, n)
	}
	return l
}

func TestP10_1New(t *testing.T) {
	d, _ := device.New(40)
	a, _ := twin.New(d, 0, 2, 10, 8)
	flush := func(int) api.Errno { t.Error("asked"); return api.OK }
	for frames, right := range map[int]bool{
		0: false, 1: true, 2: true, 63: true, 64: true, 65: false, -1: false, math.MaxInt: false, math.MinInt: false,
	} {
		p, e := New(a, frames, flush)
		if right != (e == api.OK) || right != (p != nil) || !right && e != api.ErrArg {
			t.Error(frames, e)
		}
		if held, dirty := p.Held(); len(held) != 0 || len(dirty) != 0 {
			t.Error(frames, held, dirty)
		}
	}
	if p, e := New(nil, 1, flush); p != nil || e != api.ErrArg {
		t.Error(e)
	}
	if p, e := New(a, 1, nil); p != nil || e != api.ErrArg {
		t.Error(e)
	}
	d.Blow()
	if p, e := New(a, 1, flush); p == nil || e != api.OK {
		t.Error(e)
	}
}

func TestP10_1OfANilPool(t *testing.T) {
	b := &base{t: t}
	for _, n := range []int{-1, 0, 1} {
		b.notPinned(n, api.ErrArg)
		b.answers(b.p.Unpin(n), api.ErrArg)
		b.answers(b.p.Put(n, first(n+1)), api.ErrArg)
		b.answers(b.p.Evict(n), api.ErrArg)
		if b.p.Has(n) {
			t.Error("Has", n)
		}
	}
	b.answers(b.p.Flush(), api.ErrArg)
	if held, dirty := b.p.Held(); len(held) != 0 || len(dirty) != 0 {
		t.Error(held, dirty)
	}
}

func TestP10_1PinTellsThePagesBytes(t *testing.T) {
	b := based(t, 6, 4)
	b.laid(5, noughts)
	for n, want := range []string{first(0), first(1), first(2), first(3), first(4), noughts} {
		if s, e := b.p.Pin(n); s != want || e != api.OK {
			t.Errorf("%d: %.20q %d", n, s, e)
		}
		b.unpins(n)
	}
	b.holds([]int{2, 3, 4, 5}, nil)
	// A held page isn't read again.
	b.laid(4, bytesOf(9, "otherwise"))
	b.laid(3, strings.Repeat("torn", 128))
	b.d.Blow()
	for _, n := range []int{3, 4} {
		if s, e := b.p.Pin(n); s != first(n) || e != api.OK {
			t.Errorf("%d: %.20q %d", n, s, e)
		}
	}
	b.d.On()
	b.unpins(4)
	b.answers(b.p.Evict(4), api.OK)
	if s, e := b.p.Pin(4); s != bytesOf(9, "otherwise") || e != api.OK {
		t.Errorf("%.20q %d", s, e)
	}
	b.askedOnly()
}

func TestP10_1PinOfNoPage(t *testing.T) {
	b := based(t, 6, 1)
	for range 3 {
		for _, n := range []int{-1, 6, 7, 800, math.MaxInt, math.MinInt} {
			b.notPinned(n, api.ErrArg)
		}
		b.p.Pin(0) // then all frames are pinned: ErrArg comes first
		b.d.Blow() // and ahead of the power
	}
	b.holds([]int{0}, nil)
	b.d.On()
	b.pins(0)
	b.notPinned(5, api.ErrPins)
}

func TestP10_1AsManyAsFrames(t *testing.T) {
	for _, frames := range []int{1, 2, 3, 64} {
		b := based(t, frames+2, frames)
		for n := range frames {
			b.holds(numbers(0, n), nil)
			b.pins(n)
		}
		all := numbers(0, frames)
		b.holds(all, nil)
		b.notPinned(frames, api.ErrPins)
		b.notPinned(frames+1, api.ErrPins)
		b.holds(all, nil)
		b.unpins(frames - 1)
		b.pins(frames + 1)
		b.holds(append(all[:frames-1], frames+1), nil)
	}
}

func TestP10_1TheOldestGoes(t *testing.T) {
	for name, x := range map[string]struct {
		ahead func(*base)
		want  []int // the pages that go, one by one
	}{
		"in order":           {func(b *base) { b.pins(1, 2, 3); b.unpins(1, 2, 3) }, []int{1, 2, 3}},
		"in another order":   {func(b *base) { b.pins(3, 1, 2); b.unpins(1, 2, 3) }, []int{3, 1, 2}},
		"Unpin isn't Pin":    {func(b *base) { b.pins(1, 2, 3); b.unpins(3, 2, 1) }, []int{1, 2, 3}},
		"Pinned again":       {func(b *base) { b.pins(1, 2, 3, 1); b.unpins(1, 1, 2, 3) }, []int{2, 3, 1}},
		"and again":          {func(b *base) { b.pins(1, 2, 3, 2, 1); b.unpins(1, 1, 2, 2, 3) }, []int{3, 2, 1}},
		"Put isn't Pin":      {func(b *base) { b.pins(1, 2, 3); b.puts(1, first(9)); b.unpins(1, 2, 3) }, []int{1, 2, 3}},
		"Has isn't Pin":      {func(b *base) { b.pins(1, 2, 3); b.p.Has(1); b.p.Held(); b.unpins(1, 2, 3) }, []int{1, 2, 3}},
		"Flush isn't Pin":    {func(b *base) { b.pins(1, 2, 3); b.puts(1, first(9)); b.p.Flush(); b.unpins(1, 2, 3) }, []int{1, 2, 3}},
		"no Evict, no Pin":   {func(b *base) { b.pins(1, 2, 3); b.p.Evict(1); b.notPinned(1000, api.ErrArg); b.unpins(1, 2, 3) }, []int{1, 2, 3}},
		"Evict and Pin":      {func(b *base) { b.pins(1, 2, 3); b.unpins(1, 2, 3); b.p.Evict(2); b.pins(2); b.unpins(2) }, []int{1, 3, 2}},
		"one is pinned":      {func(b *base) { b.pins(1, 2, 3); b.unpins(2, 3) }, []int{2, 3}},
		"another is":         {func(b *base) { b.pins(1, 2, 3); b.unpins(1, 3) }, []int{1, 3}},
		"the last is":        {func(b *base) { b.pins(1, 2, 3); b.unpins(1, 2) }, []int{1, 2}},
		"twice, Unpinned 1":  {func(b *base) { b.pins(1, 1, 2, 3); b.unpins(1, 2, 3) }, []int{2, 3}},
		"a dirty one":        {func(b *base) { b.dirties(1, first(9)); b.pins(2, 3); b.unpins(2, 3) }, []int{1, 2, 3}},
		"another dirty one":  {func(b *base) { b.pins(1); b.dirties(2, first(9)); b.pins(3); b.unpins(1, 3) }, []int{1, 2, 3}},
		"a dirty pinned one": {func(b *base) { b.pins(1, 2, 3); b.puts(1, first(9)); b.unpins(2, 3) }, []int{2, 3}},
	} {
		t.Run(name, func(t *testing.T) {
			b := based(t, 12, 3)
			x.ahead(b)
			held := []int{1, 2, 3}
			for i, oldest := range x.want {
				b.pins(5 + i)
				if b.p.Has(oldest) {
					t.Error(oldest, "is held")
				}
				held = append(slices.DeleteFunc(held, func(n int) bool { return n == oldest }), 5+i)
				if h, _ := b.p.Held(); !slices.Equal(h, held) {
					t.Errorf("%v, not %v", h, held)
				}
			}
			b.notPinned(4, api.ErrPins)
		})
	}
}

func TestP10_1AnOldestThatIsDirtyIsWrittenFirst(t *testing.T) {
	b := based(t, 8, 3)
	b.dirties(1, bytesOf(21, "a"))
	b.dirties(2, bytesOf(25, "b"))
	b.pins(3)
	b.pins(4)
	b.askedOnly(21) // of that page alone
	b.stored(1, bytesOf(21, "a"))
	b.stored(2, first(2))
	b.holds([]int{2, 3, 4}, []int{2})
	b.unpins(3)
	before := b.commands()
	b.pins(1)
	b.askedOnly(25)
	b.stored(2, bytesOf(25, "b"))
	if n := b.commands() - before; n != 7 {
		t.Error(n, "commands")
	}
	before = b.commands()
	b.pins(5) // page 3 goes, which isn't dirty
	b.askedOnly()
	if b.commands() != before {
		t.Error("written")
	}
	if s, e := b.p.Pin(1); s != bytesOf(21, "a") || e != api.OK {
		t.Errorf("%.20q %d", s, e)
	}
	b.holds([]int{1, 4, 5}, nil)
}

// Evicted, flushed or Pinned: how pages come to be written.
func ways() map[string]func(*base) api.Errno {
	return map[string]func(*base) api.Errno{
		"Pin": func(b *base) api.Errno {
			s, e := b.p.Pin(5)
			if s != "" {
				b.t.Error("bytes beside an error")
			}
			return e
		},
		"Evict": func(b *base) api.Errno { return b.p.Evict(1) },
		"Flush": func(b *base) api.Errno { return b.p.Flush() },
	}
}

// TestP10_3ErrorsOfFlush: nothing is written, and what was dirty is so.
func TestP10_3ErrorsOfFlush(t *testing.T) {
	for name, call := range ways() {
		for _, fails := range []api.Errno{api.ErrArg, api.ErrPower, api.ErrLog, api.ErrPins, api.ErrNone, api.ErrState, -1, 1000} {
			t.Run(fmt.Sprint(name, fails), func(t *testing.T) {
				b := based(t, 8, 2)
				b.dirties(1, bytesOf(30, "a"))
				b.pins(2)
				b.unpins(2)
				before := b.commands()
				b.fails = fails
				for range 2 {
					b.answers(call(b), fails)
					b.askedOnly(30)
					b.holds([]int{1, 2}, []int{1})
				}
				if b.commands() != before {
					t.Error("written")
				}
				b.fails = api.OK
				if s, e := b.p.Pin(1); s != bytesOf(30, "a") || e != api.OK {
					t.Errorf("%.20q %d", s, e)
				}
				b.answers(b.p.Flush(), api.OK)
				b.askedOnly(30)
				b.stored(1, bytesOf(30, "a"))
				b.holds([]int{1, 2}, nil)
			})
		}
	}
}

// TestP10_3ErrorsOfTheArea: the power fails at each command, or is off already.
func TestP10_3ErrorsOfTheArea(t *testing.T) {
	for name, call := range ways() {
		for fuse := range 8 {
			t.Run(fmt.Sprint(name, fuse), func(t *testing.T) {
				b := based(t, 8, 2)
				b.dirties(1, bytesOf(30, "a"))
				b.pins(2)
				b.unpins(2)
				if fuse == 0 {
					b.d.Blow()
				} else {
					b.d.Fuse(fuse)
				}
				for range 2 {
					b.answers(call(b), api.ErrPower)
					b.askedOnly(30) // also where the power is off: the pool can't know
					b.holds([]int{1, 2}, []int{1})
				}
				b.d.On()
				b.a.Repair()
				b.answers(b.p.Evict(1), api.OK)
				b.stored(1, bytesOf(30, "a"))
				b.holds([]int{2}, nil)
			})
		}
	}
}

func TestP10_1WhatCannotBeRead(t *testing.T) {
	off := func(b *base) api.Errno { b.d.Blow(); return api.ErrPower }
	torn := func(b *base) api.Errno { b.laid(5, first(5)[:256]+first(6)[256:]); return api.ErrCorrupt }
	for name, spoil := range map[string]func(*base) api.Errno{"power": off, "torn": torn} {
		t.Run(name, func(t *testing.T) {
			b := based(t, 8, 2)
			b.pins(1)
			e := spoil(b)
			// Where there is room, nothing has changed.
			b.notPinned(5, e)
			b.answers(b.p.Unpin(5), api.ErrState)
			b.holds([]int{1}, nil)
			b.d.On()
			b.pins(2)
			spoil(b)
			b.notPinned(5, api.ErrPins) // it comes first
			b.holds([]int{1, 2}, nil)
			// The oldest one goes ahead of reading.
			b.unpins(1, 2)
			b.notPinned(5, e)
			b.holds([]int{2}, nil)
			b.notPinned(5, e)
			b.holds([]int{2}, nil)
			b.askedOnly()
			b.d.On()
			b.laid(5, first(5))
			b.pins(5, 1)
			b.holds([]int{1, 5}, nil)
		})
	}
}

func TestP10_1ADirtyOneGoesForATornOne(t *testing.T) {
	b := based(t, 8, 1)
	b.dirties(1, bytesOf(30, "a"))
	b.laid(5, noughts[:511]+"\x01")
	b.notPinned(5, api.ErrCorrupt)
	b.askedOnly(30)
	b.stored(1, bytesOf(30, "a"))
	b.holds(nil, nil)
	// And where it can't be written, the torn one isn't even read.
	b.dirties(1, bytesOf(31, "b"))
	b.fails = api.ErrLog
	b.notPinned(5, api.ErrLog)
	b.holds([]int{1}, []int{1})
}

func TestP10_1Unpin(t *testing.T) {
	b := based(t, 8, 2)
	for _, n := range []int{-1, 0, 1, 8, math.MaxInt, math.MinInt} {
		b.answers(b.p.Unpin(n), api.ErrState)
	}
	b.pins(1, 1, 1)
	for range 3 {
		b.answers(b.p.Evict(1), api.ErrPins)
		b.unpins(1)
	}
	b.answers(b.p.Unpin(1), api.ErrState)
	b.answers(b.p.Unpin(2), api.ErrState)
	b.holds([]int{1}, nil)
	// Where it was Unpinned too often, that doesn't count later.
	b.pins(1)
	b.answers(b.p.Evict(1), api.ErrPins)
	b.unpins(1)
	b.answers(b.p.Evict(1), api.OK)
	b.answers(b.p.Unpin(1), api.ErrState)
}

func TestP10_2Put(t *testing.T) {
	b := based(t, 8, 3)
	before := b.commands()
	b.pins(1, 2)
	b.puts(1, first(1))
	b.holds([]int{1, 2}, nil) // the bytes that it has
	b.puts(1, bytesOf(12, "a"))
	b.holds([]int{1, 2}, []int{1})
	if s, e := b.p.Pin(1); s != bytesOf(12, "a") || e != api.OK {
		t.Errorf("%.20q %d", s, e)
	}
	if s, e := b.p.Pin(2); s != first(2) || e != api.OK {
		t.Errorf("%.20q %d", s, e)
	}
	b.puts(1, bytesOf(12, "a"))
	b.holds([]int{1, 2}, []int{1}) // the same again: it stays dirty
	b.puts(1, first(1))
	b.holds([]int{1, 2}, []int{1}) // the bytes that it had when it was read: other ones were Put since
	b.puts(2, noughts)
	b.holds([]int{1, 2}, []int{1, 2})
	b.puts(2, bytesOf(1<<48-1, "most"))
	b.puts(2, page.Build(3, strings.Repeat("x", 496))) // Whole, if no page's form
	if s, e := b.p.Pin(2); s != page.Build(3, strings.Repeat("x", 496)) || e != api.OK {
		t.Errorf("%.20q %d", s, e)
	}
	b.askedOnly()
	if b.commands() != before {
		t.Error("written")
	}
}

func TestP10_2PutOfWhatMayNotBe(t *testing.T) {
	b := based(t, 8, 2)
	b.pins(1, 2)
	b.unpins(2)
	for _, bytes := range append(notWhole(), first(3)) {
		for _, n := range []int{-1, 0, 2, 3, 8, math.MaxInt, math.MinInt} {
			b.answers(b.p.Put(n, bytes), api.ErrState)
		}
	}
	for _, bytes := range notWhole() {
		b.answers(b.p.Put(1, bytes), api.ErrArg)
	}
	b.holds([]int{1, 2}, nil)
	if s, e := b.p.Pin(1); s != first(1) || e != api.OK {
		t.Errorf("%.20q %d", s, e)
	}
}

func TestP10_2Evict(t *testing.T) {
	b := based(t, 8, 4)
	for _, n := range []int{-1, 0, 7, 8, math.MaxInt, math.MinInt} {
		b.answers(b.p.Evict(n), api.ErrNone)
	}
	b.pins(1, 2, 3)
	b.puts(1, bytesOf(50, "a"))
	b.puts(2, bytesOf(40, "b"))
	b.answers(b.p.Evict(1), api.ErrPins)
	b.answers(b.p.Evict(3), api.ErrPins)
	b.askedOnly()
	b.holds([]int{1, 2, 3}, []int{1, 2})
	b.unpins(1, 2, 3)
	before := b.commands()
	b.answers(b.p.Evict(3), api.OK)
	if b.commands() != before {
		t.Error("written")
	}
	b.askedOnly()
	b.holds([]int{1, 2}, []int{1, 2})
	b.answers(b.p.Evict(2), api.OK)
	b.askedOnly(40)
	b.stored(1, first(1))
	b.stored(2, bytesOf(40, "b"))
	b.holds([]int{1}, []int{1})
	b.answers(b.p.Evict(2), api.ErrNone)
	// It is read again then, and isn't dirty.
	if s, e := b.p.Pin(2); s != bytesOf(40, "b") || e != api.OK {
		t.Errorf("%.20q %d", s, e)
	}
	b.holds([]int{1, 2}, []int{1})
	b.d.Blow()
	b.unpins(2)
	b.answers(b.p.Evict(2), api.OK) // nothing is to be written
	b.holds([]int{1}, []int{1})
}

func TestP10_2AFrameThatWasEvictedIsFree(t *testing.T) {
	b := based(t, 8, 2)
	b.pins(1, 2)
	b.unpins(2)
	b.answers(b.p.Evict(2), api.OK)
	b.pins(3)
	b.holds([]int{1, 3}, nil)
	b.notPinned(4, api.ErrPins)
}

func TestP10_2Flush(t *testing.T) {
	b := based(t, 8, 6)
	b.answers(b.p.Flush(), api.OK)
	b.pins(6, 5, 4, 3, 2)
	b.answers(b.p.Flush(), api.OK)
	b.askedOnly()
	b.puts(6, bytesOf(61, "a"))
	b.puts(2, bytesOf(63, "b"))
	b.puts(5, bytesOf(62, "c"))
	b.unpins(5, 4, 3)
	before := b.commands()
	b.answers(b.p.Flush(), api.OK)
	b.askedOnly(63)
	// All at once, by rising numbers: pages 2 and 5 into the two slots, then page 6
	// into the first one again.
	if n := b.commands() - before; n != 3*5+2*2 {
		t.Error(n, "commands")
	}
	b.inSlot(0, 6, bytesOf(61, "a"))
	b.inSlot(1, 5, bytesOf(62, "c"))
	b.stored(2, bytesOf(63, "b"))
	b.stored(5, bytesOf(62, "c"))
	b.stored(6, bytesOf(61, "a"))
	b.stored(3, first(3))
	b.holds([]int{2, 3, 4, 5, 6}, nil)
	// Nothing is dirty: nothing is written.
	before = b.commands()
	b.d.Blow()
	b.answers(b.p.Flush(), api.OK)
	b.askedOnly()
	if b.commands() != before {
		t.Error("written")
	}
	b.d.On()
	b.puts(2, bytesOf(63, "b"))
	b.holds([]int{2, 3, 4, 5, 6}, nil)
	b.puts(2, first(2)) // other ones than those that were written last
	b.holds([]int{2, 3, 4, 5, 6}, []int{2})
	b.answers(b.p.Evict(2), api.ErrPins)
	b.answers(b.p.Flush(), api.OK)
	b.askedOnly(2)
	b.stored(2, first(2))
}

// inSlot tells where a slot has another page.
func (b *base) inSlot(slot, n int, bytes string) {
	b.t.Helper()
	var sectors [3]string
	for i := range sectors {
		sectors[i], _ = b.d.Read(3*slot + i)
	}
	if sectors[0][:4] != "CT\x00"+string(rune(n)) || sectors[1]+sectors[2] != bytes {
		b.t.Errorf("slot %d: %.20q", slot, sectors)
	}
}

func TestP10_2FlushInOneRound(t *testing.T) {
	b := based(t, 8, 6)
	b.dirties(7, bytesOf(1, "a"))
	b.dirties(0, bytesOf(2, "b"))
	before := b.commands()
	b.answers(b.p.Flush(), api.OK)
	b.askedOnly(2)
	if n := b.commands() - before; n != 2*5+2 {
		t.Error(n, "commands")
	}
	b.inSlot(0, 0, bytesOf(2, "b"))
	b.inSlot(1, 7, bytesOf(1, "a"))
}

func TestP10_2FlushThatFailsLeavesAllDirty(t *testing.T) {
	for fuse := 1; fuse <= 3*5+2*2; fuse++ {
		for _, keep := range [][]int{nil, {1}, {1, 0}, {0, 1}} {
			b := based(t, 8, 4)
			b.dirties(6, bytesOf(61, "a"))
			b.dirties(2, bytesOf(63, "b"))
			b.dirties(5, bytesOf(62, "c"))
			b.pins(1)
			b.d.Fuse(fuse, keep...)
			b.answers(b.p.Flush(), api.ErrPower)
			b.holds([]int{1, 2, 5, 6}, []int{2, 5, 6})
			b.d.On()
			b.a.Repair()
			b.answers(b.p.Flush(), api.OK)
			b.askedOnly(63, 63)
			b.stored(2, bytesOf(63, "b"))
			b.stored(5, bytesOf(62, "c"))
			b.stored(6, bytesOf(61, "a"))
			b.holds([]int{1, 2, 5, 6}, nil)
		}
	}
}

func TestP10_2HeldTellsNewLists(t *testing.T) {
	b := based(t, 8, 4)
	b.pins(3, 1, 2)
	b.puts(3, bytesOf(9, "a"))
	b.puts(1, bytesOf(9, "b"))
	held, dirty := b.p.Held()
	for i := range held {
		held[i] = 7
	}
	for i := range dirty {
		dirty[i] = 7
	}
	b.holds([]int{1, 2, 3}, []int{1, 3})
}

// TestP10_3TheLogComesFirst: when flush is asked, nothing of the pages is written.
func TestP10_3TheLogComesFirst(t *testing.T) {
	for name, call := range ways() {
		t.Run(name, func(t *testing.T) {
			b := based(t, 8, 2)
			var before, seen int
			p, _ := New(b.a, 2, func(lsn int) api.Errno {
				seen++
				if b.commands() != before {
					t.Error("written ahead of the log")
				}
				b.holds([]int{1, 2}, []int{1})
				return api.OK
			})
			b.p = p
			b.dirties(1, bytesOf(30, "a"))
			b.pins(2)
			b.unpins(2)
			before = b.commands()
			if name == "Pin" {
				b.pins(5)
			} else {
				b.answers(call(b), api.OK)
			}
			if seen != 1 || b.commands() != before+7 {
				t.Error(seen, b.commands()-before)
			}
		})
	}
}

func TestP10_3TheGreatestLSN(t *testing.T) {
	for _, x := range []struct {
		lsns []int
		want int
	}{
		{[]int{0}, 0}, {[]int{1}, 1}, {[]int{5, 4, 3}, 5}, {[]int{3, 5, 4}, 5}, {[]int{3, 4, 5}, 5}, {[]int{4, 4}, 4},
		{[]int{255, 256}, 256}, {[]int{1<<48 - 1, 1}, 1<<48 - 1}, {[]int{0, 0, 0, 0}, 0},
	} {
		b := based(t, 8, 6)
		for n, lsn := range x.lsns {
			b.dirties(n, bytesOf(lsn, "a"))
		}
		b.pins(7) // of the LSN 7, but it isn't dirty
		b.answers(b.p.Flush(), api.OK)
		b.askedOnly(x.want)
	}
	b := based(t, 8, 2)
	b.dirties(7, noughts)
	b.answers(b.p.Evict(7), api.OK)
	b.askedOnly(0)
	b.stored(7, noughts)
}
