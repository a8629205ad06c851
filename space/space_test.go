package space

import (
	"math"
	"slices"
	"strings"
	"testing"

	"concordance/api"
	"concordance/page"
	"concordance/record"
)

const most = 1<<48 - 1

func TestKinds(t *testing.T) {
	if !slices.Equal([]int{Meta, Free, Node, Bits, Names}, []int{1, 2, 3, 4, 5}) {
		t.Error(Meta, Free, Node, Bits, Names)
	}
}

// TestP12_1ErrorsOfTheChanges come as they come, ahead of all else.
func TestP12_1ErrorsOfTheChanges(t *testing.T) {
	for name, call := range calls() {
		t.Run(name, func(t *testing.T) {
			b := started(t, 4, 2)
			n, e := call(nil)
			b.number(n, e, 0, api.ErrArg)
			b.m.Abort()
			n, e = call(b.m)
			b.number(n, e, 0, api.ErrState)
			other := b.s.Begin()
			other.Page(2)
			other.Page(3)
			b.m = b.s.Begin()
			n, e = call(b.m)
			b.number(n, e, 0, api.ErrPins)
			other.Leave(3)
			b.s.Evict(0)
			b.d.Blow()
			n, e = call(b.m)
			b.number(n, e, 0, api.ErrPower)
			b.d.On()
			b.laid(0, strings.Repeat("torn", 128))
			n, e = call(b.m)
			b.number(n, e, 0, api.ErrCorrupt)
			b.laid(0, page.Build(2, strings.Repeat("x", 496))) // Whole, but no page's form
			n, e = call(b.m)
			b.number(n, e, 0, api.ErrCorrupt)
			other.Abort()
			b.untouched()
		})
	}
}

// TestP12_1PageZeroOfAnotherKind: ErrCorrupt, ahead of what is said of the call
// itself.
func TestP12_1PageZeroOfAnotherKind(t *testing.T) {
	b := empty(t, 4, 2)
	refused := func(kind int) {
		t.Helper()
		for name, call := range calls() {
			if name == "Start" {
				continue
			}
			if n, e := call(b.m); n != 0 || e != api.ErrCorrupt {
				t.Error(kind, name, n, e)
			}
		}
	}
	refused(0)
	b.untouched()
	for _, kind := range []int{Free, Node, Bits, Names, 255} {
		b.lays(0, page.Page{Kind: kind, Entries: []page.Entry{{Key: "high", Value: six(1)}}})
		refused(kind)
		b.answers(Start(b.m), api.ErrState)
		b.is(0, page.Page{Kind: kind, Entries: []page.Entry{{Key: "high", Value: six(1)}}})
		b.commits()
		refused(kind)
		b.answers(Start(b.m), api.ErrState)
		b.untouched()
	}
}

func TestP12_1Start(t *testing.T) {
	b := empty(t, 4, 2)
	b.answers(Start(b.m), api.OK)
	want := page.Page{Kind: 1, Entries: []page.Entry{{Key: "free", Value: six(0)}, {Key: "high", Value: six(1)}}}
	b.is(0, want)
	b.gets("high", 1)
	b.gets("free", 0)
	b.answers(Start(b.m), api.ErrState)
	b.aborts()
	n, e := Get(b.m, "high")
	b.number(n, e, 0, api.ErrCorrupt)
	b.answers(Start(b.m), api.OK)
	b.commits()
	b.answers(Start(b.m), api.ErrState)
	b.untouched()
	b.is(0, want)
	b.takes(1)
	b.answers(Start(b.m), api.ErrState)
	b.gets("high", 2)
}

func TestP12_1GetAndSet(t *testing.T) {
	b := started(t, 4, 2)
	for _, name := range []string{"", "a", "eight890", "nine56789", strings.Repeat("n", 1000), "hig", "highe", "\x00", "free\x00"} {
		b.gets(name, 0)
	}
	b.untouched()
	has := map[string]int{"high": 1, "free": 0}
	for _, name := range []string{"b", "eight890", "a", "\x00", "\xff", "fre", "free\x00", "hi", "high\x00\x00\x00\x00", "ä", "A", "ba", "\x00\x00", "z"} {
		for _, n := range []int{0, 1, 255, 256, 65536, most, 7} {
			b.sets(name, n)
			b.gets(name, n)
		}
		has[name] = 7
	}
	for name, n := range has {
		b.gets(name, n)
	}
	b.commits()
	b.sets("a", most)
	b.commits()
	has["a"] = most
	var names []string
	p := b.page(0)
	for _, e := range p.Entries {
		names = append(names, e.Key)
		if len(e.Value) != 6 || e.Marked {
			t.Error(e)
		}
	}
	if p.Kind != Meta || p.Level != 0 || p.Right != 0 || p.High != "" || !slices.IsSorted(names) || len(names) != len(has) {
		t.Error(p)
	}
	if p.Entries[slices.Index(names, "a")].Value != "\xff\xff\xff\xff\xff\xff" || p.Entries[slices.Index(names, "\xff")].Value != six(7) {
		t.Error(p)
	}
	b.answers(b.s.Flush(b.s.LSN()), api.OK)
	b.d.Blow()
	b.d.On()
	b.opens()
	for name, n := range has {
		b.gets(name, n)
	}
}

func TestP12_1WhatMayNotBeSet(t *testing.T) {
	b := started(t, 4, 2)
	for _, x := range []struct {
		name string
		n    int
	}{
		{"", 1}, {"nine56789", 1}, {strings.Repeat("n", 500), 1}, {"", -1},
		{"a", -1}, {"a", most + 1}, {"a", math.MaxInt}, {"a", math.MinInt}, {"high", -1}, {"eight890", most + 1},
	} {
		b.answers(Set(b.m, x.name, x.n), api.ErrArg)
		b.untouched()
	}
	b.sets("a", 5)
	b.answers(Set(b.m, "a", -1), api.ErrArg)
	b.answers(Set(b.m, "", 1), api.ErrArg)
	b.gets("a", 5)
}

func TestP12_1Next(t *testing.T) {
	b := started(t, 4, 2)
	next := func(name string, want int, wantError api.Errno) {
		t.Helper()
		n, e := Next(b.m, name)
		b.number(n, e, want, wantError)
	}
	for want := 1; want <= 300; want++ {
		next("row", want, api.OK)
		b.gets("row", want)
		if want%100 == 0 {
			b.commits()
		}
	}
	b.commits()
	next("row", 301, api.OK)
	b.aborts()
	next("row", 301, api.OK)
	next("a", 1, api.OK)
	next("eight890", 1, api.OK)
	b.sets("a", most-1)
	next("a", most, api.OK)
	next("a", 0, api.ErrArg)
	b.gets("a", most)
	b.commits()
	for _, name := range []string{"", "nine56789", "a"} {
		next(name, 0, api.ErrArg)
		b.untouched()
	}
	next("high", 2, api.OK)
	b.takes(2)
}

func TestP12_1NoRoomForOneMoreName(t *testing.T) {
	b := started(t, 4, 4)
	// Of 489 bytes free and high take 26; 27 names of 8 bytes 459; 4 are left.
	names := func(i int) string { return "name" + string([]byte{'0', byte('0' + i/10), byte('0' + i%10), 'x'}) }
	for i := range 27 {
		b.sets(names(i), i+1)
	}
	b.commits()
	for _, name := range []string{"a", names(27), "eight890"} {
		b.answers(Set(b.m, name, 1), api.ErrFull)
		n, e := Next(b.m, name)
		b.number(n, e, 0, api.ErrFull)
		b.gets(name, 0)
		b.answers(Set(b.m, name, -1), api.ErrArg) // it comes first
	}
	b.untouched()
	for i := range 27 {
		b.gets(names(i), i+1)
		b.sets(names(i), most)
		b.gets(names(i), most)
	}
	b.takes(1, 2, 3)
	b.gives(2)
	b.takes(2)
	n, e := Next(b.m, "free")
	b.number(n, e, 1, api.OK)
	b.sets("free", 0)
	b.commits()
	b.gets("high", 4)
}

// TestP12_1JustRoom: the last byte of page 0 can be used.
func TestP12_1JustRoom(t *testing.T) {
	for left, want := range map[int]api.Errno{9: api.ErrFull, 10: api.OK, 11: api.OK} {
		b := started(t, 4, 2)
		p := b.page(0)
		for _, key := range []string{"x1", "x2", "x3", "x4"} {
			p.Entries = append(p.Entries, page.Entry{Key: key, Value: strings.Repeat("v", 100)})
		}
		p.Entries = append(p.Entries, page.Entry{Key: "x5", Value: strings.Repeat("v", page.Free(p)-5-left)})
		b.lays(0, p)
		b.answers(Set(b.m, "a", 1), want)
	}
}

func TestP12_2Take(t *testing.T) {
	b := started(t, 5, 5)
	for n := 1; n <= 4; n++ {
		b.takes(n)
		b.is(n, page.Page{Kind: Node})
		b.gets("high", n+1)
		b.gets("free", 0)
		b.answers(b.m.Set(n, page.Page{Kind: Bits}), api.OK)
	}
	for range 2 {
		n, e := Take(b.m)
		b.number(n, e, 0, api.ErrFull)
		b.gets("high", 5)
	}
	b.commits()
	for range 2 {
		n, e := Take(b.m)
		b.number(n, e, 0, api.ErrFull)
		b.untouched()
	}
	for n := 1; n <= 4; n++ {
		b.is(n, page.Page{Kind: Bits})
	}
}

// TestP12_2TakeOfTheLastPage: of one page there is none to be taken.
func TestP12_2TakeOfTheLastPage(t *testing.T) {
	for _, pages := range []int{1, 2, 60, api.MaxPages} {
		b := started(t, pages, 2)
		for n := 1; n < pages; n++ {
			b.takes(n)
			b.commits()
		}
		for range 2 {
			n, e := Take(b.m)
			b.number(n, e, 0, api.ErrFull)
			b.untouched()
		}
		b.unused(pages, 0)
		b.gets("high", pages)
	}
}

func TestP12_2GiveAndTake(t *testing.T) {
	b := started(t, 6, 6)
	b.takes(1, 2, 3, 4)
	full := page.Page{Kind: 77, Level: 7, Right: 9, High: "high", Entries: []page.Entry{{Key: "a", Value: "b", Marked: true}}}
	for n := 1; n <= 4; n++ {
		b.answers(b.m.Set(n, full), api.OK)
	}
	b.gives(2, 4, 1)
	b.is(2, page.Page{Kind: Free})
	b.is(4, page.Page{Kind: Free, Right: 2})
	b.is(1, page.Page{Kind: Free, Right: 4})
	b.is(3, full)
	b.gets("free", 1)
	b.gets("high", 5)
	b.unused(6, 4)
	b.commits()
	b.takes(1)
	b.is(1, page.Page{Kind: Node})
	b.gets("free", 4)
	b.gives(3)
	b.is(3, page.Page{Kind: Free, Right: 4})
	b.takes(3, 4, 2, 5)
	b.gets("free", 0)
	n, e := Take(b.m)
	b.number(n, e, 0, api.ErrFull)
	b.gives(5)
	b.takes(5)
	for n := 1; n <= 5; n++ {
		b.is(n, page.Page{Kind: Node})
	}
	b.commits()
	b.aborts()
	b.gives(3)
	b.aborts()
	b.is(3, page.Page{Kind: Node})
	b.gets("free", 0)
}

// TestP12_2WhatIsTakenWasAsked: it can be Set, whatever it was.
func TestP12_2WhatIsTakenWasAsked(t *testing.T) {
	b := started(t, 4, 3)
	b.takes(1)
	b.answers(b.m.Set(1, page.Page{Kind: Bits}), api.OK)
	b.commits()
	b.gives(1)
	b.commits()
	b.takes(1)
	b.answers(b.m.Set(1, page.Page{Kind: Names}), api.OK)
	b.commits()
	b.lays(2, page.Page{Kind: Node}) // as Take will lay it
	b.commits()
	b.takes(2)
	b.answers(b.m.Set(2, page.Page{Kind: Names}), api.OK)
}

func TestP12_2TakeOfWhatIsNotFree(t *testing.T) {
	b := started(t, 6, 4)
	b.takes(1, 2, 3)
	b.gives(1)
	b.commits()
	for _, kind := range []int{Meta, Node, Bits, Names, 255} {
		b.lays(1, page.Page{Kind: kind, Right: 2})
		n, e := Take(b.m)
		b.number(n, e, 0, api.ErrCorrupt)
		n, e = Unused(b.m, 6)
		b.number(n, e, 0, api.ErrCorrupt)
		b.is(1, page.Page{Kind: kind, Right: 2})
		b.gets("free", 1)
		b.gets("high", 4)
		b.aborts()
	}
	b.lays(2, page.Page{Kind: Free, Right: 3, Level: 5, High: "x", Entries: []page.Entry{{Key: "y"}}})
	b.sets("free", 2)
	b.takes(2)
	b.is(2, page.Page{Kind: Node})
	n, e := Take(b.m) // page 3 is a node
	b.number(n, e, 0, api.ErrCorrupt)
	b.aborts()
	b.sets("free", 5) // never taken: its Kind is 0
	n, e = Take(b.m)
	b.number(n, e, 0, api.ErrCorrupt)
	b.aborts()
	b.s.Evict(1)
	b.laid(1, strings.Repeat("torn", 128))
	n, e = Take(b.m)
	b.number(n, e, 0, api.ErrCorrupt)
	n, e = Unused(b.m, 6)
	b.number(n, e, 0, api.ErrCorrupt)
	b.answers(Give(b.m, 1), api.ErrCorrupt)
	b.untouched()
}

func TestP12_2TakeOfNoPageOfTheStore(t *testing.T) {
	b := started(t, 6, 4)
	for _, name := range []string{"free", "high"} {
		for _, n := range []int{6, 7, 800, 65536, most} {
			b.sets(name, n)
			b.commits()
			for range 2 {
				got, e := Take(b.m)
				b.number(got, e, 0, api.ErrFull)
				b.untouched()
			}
			b.gets(name, n)
		}
		b.sets(name, 1)
		b.commits()
		if name == "free" {
			b.sets("free", 0)
			b.commits()
		}
	}
	b.takes(1)
}

func TestP12_2GiveOfWhatMayNotBe(t *testing.T) {
	b := started(t, 6, 4)
	for _, n := range []int{math.MinInt, -1, 0, 1, 2, 5, 6, math.MaxInt} {
		b.answers(Give(b.m, n), api.ErrArg)
		b.untouched()
	}
	b.takes(1, 2, 3)
	b.commits()
	for _, n := range []int{math.MinInt, -1, 0, 4, 5, 6, math.MaxInt} {
		b.answers(Give(b.m, n), api.ErrArg)
		b.untouched()
	}
	b.gives(3, 1) // high - 1, and the first one
	b.gets("high", 4)
	for range 2 {
		for _, n := range []int{1, 3} {
			b.answers(Give(b.m, n), api.ErrState)
		}
		b.answers(Give(b.m, 0), api.ErrArg)
		b.answers(Give(b.m, 4), api.ErrArg)
	}
	b.is(1, page.Page{Kind: Free, Right: 3})
	b.is(3, page.Page{Kind: Free})
	b.commits()
	for _, n := range []int{1, 3} {
		b.answers(Give(b.m, n), api.ErrState)
		b.untouched()
	}
	b.unused(6, 4)
	b.gives(2)
	b.unused(6, 5)
	// No page of the store, if below high.
	b.sets("high", 9)
	b.commits()
	for _, n := range []int{6, 8} {
		b.answers(Give(b.m, n), api.ErrArg)
		b.untouched()
	}
}

func TestP12_2Unused(t *testing.T) {
	b := started(t, 8, 3)
	for pages, want := range map[int]int{math.MinInt: 0, -1: 0, 0: 0, 1: 0, 2: 1, 7: 6, 8: 7, 9: 8, 1000: 999, math.MaxInt: math.MaxInt - 1} {
		b.unused(pages, want)
	}
	b.untouched()
	for n := 1; n <= 6; n++ {
		b.takes(n)
		b.commits()
	}
	for pages, want := range map[int]int{-5: 0, 0: 0, 6: 0, 7: 0, 8: 1, 100: 93} {
		b.unused(pages, want)
	}
	for _, n := range []int{5, 2, 6, 3} { // more than frames
		b.gives(n)
		b.commits()
	}
	// Of so many pages, from page 0 on: of them 2, 3, 5 and 6 are free, 7 on weren't taken.
	for pages, want := range map[int]int{-1: 0, 0: 0, 1: 0, 2: 0, 3: 1, 4: 2, 5: 2, 6: 3, 7: 4, 8: 5, 9: 6, 20: 17, math.MinInt: 0} {
		b.unused(pages, want)
		b.untouched()
	}
	b.takes(3)
	b.unused(8, 4)
	b.gives(3)
	b.unused(8, 5)
}

// TestP12_2UnusedCountsEachOnce: also one that is free, and was never taken.
func TestP12_2UnusedCountsEachOnce(t *testing.T) {
	b := started(t, 8, 4)
	b.takes(1, 2)
	b.gives(2)
	b.lays(5, page.Page{Kind: Free, Right: 2})
	b.sets("free", 5)
	for pages, want := range map[int]int{2: 0, 3: 1, 5: 3, 6: 4, 8: 6} {
		b.unused(pages, want)
	}
}

func TestP12_2FreeOnesThatGoRound(t *testing.T) {
	for _, rights := range [][]int{{1}, {2, 1}, {2, 3, 1}, {2, 3, 4, 5, 1}, {2, 3, 4, 5, 5}, {2, 3, 4, 5, 3}, {2, 2}} {
		for _, frames := range []int{2, 3, 7} {
			b := started(t, 7, frames)
			for n := 1; n <= 6; n++ {
				b.takes(n)
				b.commits()
			}
			for i, right := range rights {
				b.lays(i+1, page.Page{Kind: Free, Right: right})
				b.commits()
			}
			b.sets("free", 1)
			b.commits()
			for _, pages := range []int{-1, 0, 2, 7, 800} {
				n, e := Unused(b.m, pages)
				b.number(n, e, 0, api.ErrCorrupt)
				b.untouched()
			}
			// Where they end they don't.
			b.lays(len(rights), page.Page{Kind: Free})
			b.commits()
			b.unused(7, len(rights))
		}
	}
}

// TestP12_2AsManyFreeOnesAsMayBe: they don't go round.
func TestP12_2AsManyFreeOnesAsMayBe(t *testing.T) {
	b := started(t, api.MaxPages, 2)
	for n := 1; n < api.MaxPages; n++ {
		b.takes(n)
		b.gives(n)
		b.sets("free", 0)
		p := b.page(n)
		p.Right = n - 1
		b.answers(b.m.Set(n, p), api.OK)
		b.commits()
	}
	b.sets("free", api.MaxPages-1)
	b.unused(api.MaxPages, api.MaxPages-1)
	b.unused(100, 99)
	b.takes(799)
	b.commits()
	b.unused(api.MaxPages, api.MaxPages-2)
}

// TestP12_2FreeBeyondAPagesRight: what can't be a Right is refused by the changes.
func TestP12_2FreeBeyondAPagesRight(t *testing.T) {
	b := started(t, 4, 3)
	b.takes(1)
	b.sets("free", 65536)
	b.commits()
	b.answers(Give(b.m, 1), api.ErrArg)
	b.untouched()
	b.sets("free", 65535)
	b.gives(1)
	b.is(1, page.Page{Kind: Free, Right: 65535})
	n, e := Unused(b.m, 4)
	b.number(n, e, 0, api.ErrArg)
	b.takes(1)
	n, e = Take(b.m)
	b.number(n, e, 0, api.ErrFull)
}

// TestP12_2OthersPagesStayAsked: what the caller has asked itself isn't let go.
func TestP12_2OthersPagesStayAsked(t *testing.T) {
	for name, call := range calls() {
		b := started(t, 6, 6)
		b.takes(1, 2, 3)
		b.gives(1, 3)
		b.commits()
		for n := range 6 {
			b.page(n)
		}
		call(b.m)
		for n := range 6 {
			if !b.asked(n) {
				t.Error(name, "let go of", n)
			}
		}
	}
}

// TestP12_2FreePagesAreLetGo while they are gone through.
func TestP12_2FreePagesAreLetGo(t *testing.T) {
	b := started(t, 6, 2)
	for n := 1; n <= 5; n++ {
		b.takes(n)
		b.commits()
	}
	for n := 1; n <= 5; n++ {
		b.gives(n)
		b.commits()
	}
	b.unused(6, 5)
	b.untouched()
	b.sets("a", 1) // page 0 is pinned now: one frame is left
	b.unused(6, 5)
	n, e := Take(b.m)
	b.number(n, e, 5, api.OK)
	n, e = Unused(b.m, 6) // and now none is
	b.number(n, e, 0, api.ErrPins)
	n, e = Take(b.m)
	b.number(n, e, 0, api.ErrPins)
	b.gets("free", 4)
	if n, e := b.m.Commit(record.Record{Kind: record.Change}); n == 0 || e != api.OK {
		t.Error(n, e)
	}
}
