package buffer

import (
	"fmt"
	"math"
	"slices"
	"testing"

	"concordance/api"
	"concordance/bitmap"
	"concordance/page"
	"concordance/space"
)

// TestP17_3NothingWaits: then nothing happens.
func TestP17_3NothingWaits(t *testing.T) {
	b := started(t, 12, 8, 3)
	b.adds(1, 4, Op{Mark, "a"})
	b.commits()
	for _, n := range []int{0, 1, 2, 3, 5, 11, 12, 799} { // whatever page that is
		for _, index := range []int{math.MinInt, -1, 0, 1, 2, 65535, 65536, math.MaxInt} {
			b.lists(index, n)
			b.merges(index, n, 0)
			b.drops(index, n, 0)
		}
	}
	for _, n := range []int{math.MinInt, -1, 800, 65535, 65536, math.MaxInt} {
		b.lists(1, n)
		b.mergesNot(1, n, api.ErrArg) // layer 16's
		d, e := Drop(b.m, 1, n)
		b.number(d, e, 0, api.ErrArg)
	}
	for _, index := range []int{-1, 0, 2, 65536, 1 << 20} { // other indexes
		b.lists(index, 4)
	}
	b.pending(1)
	b.first(1, 4)
	b.untouched()
	b.flags(3, bitmap.Flags{Class: 1, Closed: true})
	b.merges(1, 3, 0)
	b.drops(1, 3, 0)
	b.hasFlags(3, bitmap.Flags{Class: 1, Closed: true}) // also the Class isn't told anew
}

// TestP17_3NotBuffered: what waits stays, where the flags say that nothing does.
func TestP17_3NotBuffered(t *testing.T) {
	b := started(t, 12, 8, 2)
	x := Op{Insert, "a"}
	b.adds(1, 3, x)
	b.flags(3, bitmap.Flags{Class: 2, Closed: true})
	b.commits()
	b.merges(1, 3, 0)
	b.drops(1, 3, 0)
	b.untouched()
	b.lists(1, 3, x)
	b.is(3, leaf())
	b.flags(3, bitmap.Flags{Class: 2, Buffered: true})
	b.merges(1, 3, 1)
	b.is(3, leaf(plain("a")))
}

func TestP17_3Merge(t *testing.T) {
	b := started(t, 12, 8, 3)
	b.lays(3, leaf(plain("b"), signed("c"), signed("d"), plain("e")))
	b.adds(1, 3, Op{Insert, "a"}, Op{Mark, "b"}, Op{Unmark, "c"}, Op{Purge, "d"}, Op{Purge, "e"}, Op{Mark, "none"})
	b.adds(1, 4, Op{Insert, "x"})
	b.adds(2, 5, Op{Insert, "y"})
	b.commits()
	b.lists(1, 3, Op{Insert, "a"}, Op{Mark, "b"}, Op{Unmark, "c"}, Op{Purge, "d"}, Op{Purge, "e"}, Op{Mark, "none"})
	b.untouched()
	b.pending(8)
	b.merges(1, 3, 6)
	want := leaf(plain("a"), signed("b"), plain("c"), plain("e"))
	b.is(3, want)
	b.hasFlags(3, bitmap.Flags{Class: 3})
	b.pending(2)
	b.lists(1, 3)
	b.lists(1, 4, Op{Insert, "x"})
	b.lists(2, 5, Op{Insert, "y"})
	b.hasFlags(4, bitmap.Flags{Class: 3, Buffered: true})
	b.hasFlags(5, bitmap.Flags{Class: 3, Buffered: true})
	b.is(4, leaf())
	b.commits()
	b.merges(1, 3, 0) // again
	b.untouched()
	b.is(3, want)
	b.merges(2, 5, 1)
	b.is(5, leaf(plain("y")))
	b.pending(1)
	b.aborts()
	b.is(5, leaf())
	b.pending(2)
	b.first(1, 4)
}

// TestP17_3Order: what was added first is applied first.
func TestP17_3Order(t *testing.T) {
	for i, c := range []struct {
		kinds []int
		want  []page.Entry
	}{
		{[]int{Insert, Mark}, []page.Entry{signed("k")}},
		{[]int{Mark, Insert}, []page.Entry{plain("k")}},
		{[]int{Insert, Mark, Unmark}, []page.Entry{plain("k")}},
		{[]int{Insert, Unmark, Mark}, []page.Entry{signed("k")}},
		{[]int{Insert, Purge, Mark}, []page.Entry{signed("k")}},
		{[]int{Insert, Mark, Purge}, nil},
		{[]int{Insert, Mark, Purge, Insert}, []page.Entry{plain("k")}},
		{[]int{Insert, Mark, Insert}, []page.Entry{plain("k")}},
		{[]int{Purge, Mark, Unmark}, nil},
		{[]int{Insert, Mark, Unmark, Purge}, []page.Entry{plain("k")}},
	} {
		b := started(t, 12, 8, 1)
		for _, kind := range c.kinds {
			b.adds(9, 3, Op{kind, "k"})
			b.commits()
		}
		b.merges(9, 3, len(c.kinds))
		if p := b.page(3); !slices.Equal(p.Entries, c.want) {
			t.Error(i, p.Entries)
		}
	}
}

// TestP17_3ClassBehindMerge is that of what the leaf has free then; it is Closed as
// it was.
func TestP17_3ClassBehindMerge(t *testing.T) {
	for _, free := range []int{0, 3, 63, 64, 65, 127, 128, 129, 255, 256, 257, 400, 453} {
		for _, closed := range []bool{false, true} {
			b := started(t, 12, 8, 1)
			p := full(free)
			if page.Free(p) != free {
				t.Fatal(free, page.Free(p))
			}
			b.lays(3, p)
			b.adds(1, 3, Op{Mark, "none"})
			b.flags(3, bitmap.Flags{Class: 1, Buffered: true, Closed: closed})
			b.merges(1, 3, 1)
			want := 0
			for _, least := range []int{64, 128, 256} {
				if free >= least {
					want++
				}
			}
			b.hasFlags(3, bitmap.Flags{Class: want, Closed: closed})
			b.is(3, p)
		}
	}
}

func TestP17_3Drop(t *testing.T) {
	b := started(t, 12, 8, 3)
	for class := range 4 {
		for _, closed := range []bool{false, true} {
			b.flags(3, bitmap.Flags{Class: class})
			b.adds(1, 3, Op{Mark, "a"}, Op{Purge, "a"})
			b.adds(1, 4, Op{Mark, "x"})
			b.flags(3, bitmap.Flags{Class: class, Buffered: true, Closed: closed})
			b.drops(1, 3, 2)
			b.hasFlags(3, bitmap.Flags{Class: class, Closed: closed})
			b.lists(1, 3)
			b.lists(1, 4, Op{Mark, "x"})
			b.pending(1)
			b.first(1, 4)
			b.drops(1, 3, 0)
			b.is(3, leaf())
			b.aborts()
		}
	}
}

// TestP17_3DropOfAnyPage: it isn't read.
func TestP17_3DropOfAnyPage(t *testing.T) {
	b := started(t, 12, 8, 1)
	for _, n := range []int{0, flagsAt, bufferAt, 3, 9, 11, 12, 799} {
		b.adds(1, n, Op{Mark, "a"}, Op{Mark, "b"})
		b.commits()
		if n > bufferAt && b.s.Has(n) {
			b.answers(b.s.Evict(n), api.OK)
		}
		b.drops(1, n, 2)
		if n > bufferAt && b.s.Has(n) {
			t.Error("read page", n)
		}
		b.pending(0)
		b.aborts()
		b.merges(1, 3, map[bool]int{true: 2}[n == 3])
		b.drops(1, n, map[bool]int{true: 2}[n != 3])
		b.commits()
	}
}

// TestP17_3First is the least by the index, then by the page.
func TestP17_3First(t *testing.T) {
	b := started(t, 12, 8, 4)
	b.firstNone(api.OK)
	b.untouched()
	for _, x := range []struct{ index, n, first, firstPage int }{
		{500, 4, 500, 4},
		{500, 5, 500, 4},
		{500, 3, 500, 3},
		{501, 3, 500, 3},
		{499, 6, 499, 6},
		{499, 799, 499, 6},
		{255, 300, 255, 300},
		{256, 3, 255, 300},
		{0, 256, 0, 256},
		{0, 255, 0, 255},
		{0, 0, 0, 0},
	} {
		b.adds(x.index, x.n, Op{Purge, "a"}, Op{Mark, "a"})
		b.first(x.first, x.firstPage)
	}
	b.commits()
	b.first(0, 0)
	b.untouched()
	for _, next := range []struct{ index, n int }{{0, 255}, {0, 256}, {255, 300}, {256, 3}, {499, 6}, {499, 799}, {500, 3}, {500, 4}, {500, 5}, {501, 3}} {
		index, n, _, _ := First(b.m)
		b.drops(index, n, 2)
		if next.n == 3 { // others of this page wait, too
			b.flags(3, bitmap.Flags{Buffered: true})
		}
		b.first(next.index, next.n)
	}
	b.drops(501, 3, 2)
	b.firstNone(api.OK)
	b.pending(0)
}

// TestP17_3FirstBehindLeavesWithoutAny: where what waited ahead is merged.
func TestP17_3FirstBehindLeavesWithoutAny(t *testing.T) {
	b := started(t, 60, 40, 10)
	for i := range 10 {
		for j := range 12 {
			b.adds(i, leafAt+i, Op{Mark, long(fmt.Sprint(i, j), 60)})
		}
		b.commits()
	}
	for i := range 9 {
		b.first(i, leafAt+i)
		b.merges(i, leafAt+i, 12)
		b.first(i+1, leafAt+i+1)
		b.commits()
	}
	b.adds(3, leafAt+3, Op{Mark, "a"})
	b.first(3, leafAt+3)
	b.drops(3, leafAt+3, 1)
	b.drops(9, leafAt+9, 12)
	b.firstNone(api.OK)
}

// TestP17_3ErrCorrupt: no leaf, or a change that doesn't go into it. All stays.
func TestP17_3ErrCorrupt(t *testing.T) {
	above := page.Page{Kind: 3, Level: 1, Entries: []page.Entry{{Value: "\x00\x04"}}}
	k64 := long("k", 64)
	under := leaf(plain("a"))
	under.High = "m"
	for i, c := range []struct {
		p page.Page
		l []Op
	}{
		{above, []Op{{Mark, "a"}}},
		{above, []Op{{Insert, "a"}}},
		{page.Page{Kind: 2}, []Op{{Mark, "a"}}},
		{page.Page{Kind: 4}, []Op{{Purge, "a"}}},
		{page.Page{Kind: 255}, []Op{{Mark, "a"}}},
		{leaf(plain("b"), plain("a")), []Op{{Mark, "a"}}},
		{page.Page{Kind: 3, High: "a", Entries: []page.Entry{plain("b")}}, []Op{{Mark, "b"}}},
		{under, []Op{{Insert, "m"}}},
		{under, []Op{{Mark, "m"}, {Insert, "b"}, {Insert, "n"}}},
		{full(2), []Op{{Insert, ""}}},
		{full(10), []Op{{Insert, "a"}, {Insert, "b"}, {Insert, "c"}}},
		{full(66), []Op{{Mark, k64}, {Insert, k64}}},
	} {
		b := started(t, 12, 8, 2)
		b.lays(3, c.p)
		b.adds(1, 3, c.l...)
		b.commits()
		b.mergesNot(1, 3, api.ErrCorrupt)
		b.untouched() // it was looked at first
		b.lists(1, 3, c.l...)
		b.hasFlags(3, bitmap.Flags{Class: 3, Buffered: true})
		if t.Failed() {
			t.Fatal(i)
		}
		b.drops(1, 3, len(c.l))
		b.is(3, c.p)
	}
	b := started(t, 12, 8, 2)
	b.lays(3, full(67))
	b.adds(1, 3, Op{Insert, k64}) // it goes in, just so
	b.merges(1, 3, 1)
	b.hasFlags(3, bitmap.Flags{})
}

// TestP17_3BufferedByHand, where nothing waits: the Class is told anew.
func TestP17_3BufferedByHand(t *testing.T) {
	b := started(t, 12, 8, 2)
	b.lays(3, full(130))
	b.flags(3, bitmap.Flags{Buffered: true, Closed: true})
	b.merges(1, 3, 0)
	b.hasFlags(3, bitmap.Flags{Class: 2, Closed: true})
	b.flags(3, bitmap.Flags{Class: 1, Buffered: true})
	b.drops(1, 3, 0)
	b.hasFlags(3, bitmap.Flags{Class: 1})
	b.pending(0)
	b.flags(9, bitmap.Flags{Buffered: true}) // no leaf
	b.commits()
	b.mergesNot(1, 9, api.ErrCorrupt)
	b.mergesNot(-1, 9, api.ErrCorrupt)
	b.untouched()
	b.flags(77, bitmap.Flags{Buffered: true}) // a page that the store hasn't
	b.commits()
	b.mergesNot(1, 77, api.ErrArg)
	b.untouched()
}

// TestP17_4NeverOverflows: a leaf of any Class takes all that may wait for it.
func TestP17_4NeverOverflows(t *testing.T) {
	for _, free := range []int{64, 65, 66, 67, 127, 128, 130, 255, 256, 300} {
		for _, keyBytes := range []int{1, 5, 61, 64} {
			b := started(t, 60, 60, 2)
			p := full(free)
			b.lays(3, p)
			b.flags(3, bitmap.Flags{Class: bitmap.Class(page.Free(p))})
			var l []Op
			for i := range 80 {
				x := Op{Insert, long(string([]byte{'A' + byte(i)}), keyBytes)}
				if e := Add(b.m, 1, 3, x, 1000); e != api.OK {
					b.answers(e, api.ErrFull)
					break
				}
				l = append(l, x)
			}
			b.lists(1, 3, l...)
			b.merges(1, 3, len(l))
			least := bitmap.Least(bitmap.Class(free))
			if len(l) != least/(3+keyBytes) || page.Free(b.page(3)) != free-len(l)*(3+keyBytes) {
				t.Error(free, keyBytes, len(l))
			}
			b.hasFlags(3, bitmap.Flags{Class: bitmap.Class(page.Free(b.page(3)))})
		}
	}
}

// TestP17_3PagesAreLeft: calls that only tell ask for none; Merge for those alone
// that it Sets.
func TestP17_3PagesAreLeft(t *testing.T) {
	b := started(t, 12, 4, 2)
	b.adds(1, 3, Op{Insert, "a"})
	b.commits()
	b.m.Page(3)
	b.lists(1, 3, Op{Insert, "a"})
	b.pending(1)
	b.first(1, 3)
	if !b.asked(3) || b.asked(0) || b.asked(flagsAt) || b.asked(bufferAt) {
		t.Error("asked")
	}
	b.merges(1, 3, 1)
	for n := range 4 {
		if !b.asked(n) {
			t.Error(n)
		}
	}
	b.aborts()
	b.drops(1, 3, 1)
	if b.asked(3) {
		t.Error("Drop asks for the page")
	}
}

// TestP17_3PendingByHand: the numbers aren't what waits.
func TestP17_3PendingByHand(t *testing.T) {
	b := started(t, 12, 8, 2)
	b.adds(1, 3, Op{Insert, "a"}, Op{Mark, "a"})
	b.answers(space.Set(b.m, "pending", 1), api.OK)
	b.commits()
	b.pending(1)
	b.mergesNot(1, 3, api.ErrCorrupt)
	d, e := Drop(b.m, 1, 3)
	b.number(d, e, 0, api.ErrCorrupt)
	b.untouched()
	b.answers(space.Set(b.m, "pending", 100), api.OK)
	b.pending(100)
	b.addsNot(1, 3, Op{Mark, "a"}, 100, api.ErrFull)
	b.merges(1, 3, 2)
	b.pending(98)
}
