package buffer

import (
	"math"
	"slices"
	"strconv"
	"testing"

	"concordance/api"
	"concordance/page"
)

func applies(t *testing.T, p page.Page, x Op, want ...page.Entry) {
	t.Helper()
	was := slices.Clone(p.Entries)
	q, e := Apply(p, x)
	p.Entries = want
	if e != api.OK || !same(q, p) {
		t.Errorf("%v: %v %d, not %v", x, q, e, p)
	}
	p.Entries = was
}

func appliesNot(t *testing.T, p page.Page, x Op, want api.Errno) {
	t.Helper()
	if q, e := Apply(p, x); e != want || !same(q, page.Page{}) {
		t.Errorf("%v: %v %d, not %d", x, q, e, want)
	}
}

func TestP17_1EachKind(t *testing.T) {
	a, c := plain("a"), signed("c")
	p := leaf(a, c)
	p.LSN, p.Right, p.High = 7, 5, "x"
	for _, key := range []string{"", "0", "b", "d", "wz"} { // such as aren't there
		want := []page.Entry{a, c, plain(key)}
		slices.SortFunc(want, func(e, f page.Entry) int {
			if e.Key < f.Key {
				return -1
			}
			return 1
		})
		applies(t, p, Op{Insert, key}, want...)
		for _, kind := range []int{Mark, Unmark, Purge} {
			applies(t, p, Op{kind, key}, a, c)
		}
	}
	applies(t, p, Op{Insert, "a"}, a, c)
	applies(t, p, Op{Insert, "c"}, a, plain("c"))
	applies(t, p, Op{Mark, "a"}, signed("a"), c)
	applies(t, p, Op{Mark, "c"}, a, c)
	applies(t, p, Op{Unmark, "a"}, a, c)
	applies(t, p, Op{Unmark, "c"}, a, plain("c"))
	applies(t, p, Op{Purge, "a"}, a, c)
	applies(t, p, Op{Purge, "c"}, a)
	for _, kind := range []int{math.MinInt, -1, 0, 5, 6, 256, 257, math.MaxInt} {
		appliesNot(t, p, Op{kind, "a"}, api.ErrArg)
		appliesNot(t, page.Page{}, Op{kind, long("k", 65)}, api.ErrArg)
	}
}

func TestP17_1KindsAreNumbered(t *testing.T) {
	if Insert != 1 || Mark != 2 || Unmark != 3 || Purge != 4 {
		t.Error(Insert, Mark, Unmark, Purge)
	}
}

// TestP17_1ValuesStay, where an entry was there: an Insert has none of its own.
func TestP17_1ValuesStay(t *testing.T) {
	e := page.Entry{Key: "a", Value: "value", Marked: true}
	p := leaf(e)
	for _, kind := range []int{Insert, Unmark} {
		applies(t, p, Op{kind, "a"}, page.Entry{Key: "a", Value: "value"})
	}
	applies(t, p, Op{Mark, "a"}, e)
	applies(t, p, Op{Purge, "a"})
}

func TestP17_1LeafWithoutEntries(t *testing.T) {
	p := leaf()
	for _, key := range []string{"", "a", "\x00", "\xff", long("k", 64)} {
		applies(t, p, Op{Insert, key}, plain(key))
		for _, kind := range []int{Mark, Unmark, Purge} {
			applies(t, p, Op{kind, key})
		}
	}
}

func TestP17_1LongKeysAndHighs(t *testing.T) {
	k64, k65 := long("k", 64), long("k", 65)
	p := leaf(plain(k64))
	p.High = "l"
	applies(t, leaf(), Op{Insert, k64}, plain(k64))
	appliesNot(t, p, Op{Insert, k65}, api.ErrArg)
	appliesNot(t, p, Op{Insert, long("k", 1000)}, api.ErrArg)
	appliesNot(t, p, Op{Insert, "l"}, api.ErrArg) // the High isn't covered
	appliesNot(t, p, Op{Insert, "l\x00"}, api.ErrArg)
	applies(t, p, Op{Insert, "k\xff"}, plain(k64), plain("k\xff"))
	for _, kind := range []int{Mark, Unmark, Purge} { // there is no such entry
		for _, key := range []string{k65, "l", "l\x00", "zz"} {
			applies(t, p, Op{kind, key}, plain(k64))
		}
	}
}

// full leaf of nine entries, of which the last one is marked: so many bytes, 453
// at most, are free.
func full(free int) page.Page {
	p := leaf()
	size := page.Free(p) - free
	for i := range 8 {
		p.Entries = append(p.Entries, page.Entry{Key: strconv.Itoa(i), Value: long("", size/9-4)})
	}
	p.Entries = append(p.Entries, page.Entry{Key: "9", Marked: true, Value: long("", size-size/9*8-4)})
	return p
}

func TestP17_1FullLeaf(t *testing.T) {
	for _, free := range []int{0, 1, 2, 3, 4, 10} {
		p := full(free)
		if page.Free(p) != free {
			t.Fatal(page.Free(p))
		}
		for size := range 12 {
			x := Op{Insert, "a" + long("", max(0, size-4))}
			if free >= max(4, size) {
				applies(t, p, x, append(slices.Clone(p.Entries), plain(x.Key))...)
			} else {
				appliesNot(t, p, x, api.ErrFull)
			}
		}
		last := p.Entries[8]
		last.Marked = false
		applies(t, p, Op{Insert, "9"}, append(slices.Clone(p.Entries[:8]), last)...) // it is there already
		applies(t, p, Op{Unmark, "9"}, append(slices.Clone(p.Entries[:8]), last)...)
		applies(t, p, Op{Purge, "9"}, p.Entries[:8]...)
		first := p.Entries[0]
		first.Marked = true
		applies(t, p, Op{Mark, "0"}, append([]page.Entry{first}, p.Entries[1:]...)...)
	}
}

// TestP17_1WhatIsHandedInStays, the room behind its list included, and the answer
// shares nothing with it.
func TestP17_1WhatIsHandedInStays(t *testing.T) {
	for _, kind := range []int{0, Insert, Mark, Unmark, Purge, 5} {
		for _, key := range []string{"a", "b", "c", "d", "e"} {
			room := []page.Entry{plain("a"), signed("b"), plain("d"), plain("room"), plain("behind")}
			was := slices.Clone(room)
			q, _ := Apply(leaf(room[:3]...), Op{kind, key})
			if !slices.Equal(room, was) {
				t.Errorf("%d %q: %v", kind, key, room)
			}
			for i := range q.Entries {
				q.Entries[i].Value = "else"
			}
			_ = append(q.Entries, plain("more"))
			if !slices.Equal(room, was) {
				t.Errorf("%d %q: shares %v", kind, key, room)
			}
		}
	}
}

// TestP17_1PagesThatAreNoLeaves are promised nothing, but that it ends.
func TestP17_1PagesThatAreNoLeaves(t *testing.T) {
	for _, p := range []page.Page{
		{},
		{Kind: 1, Level: -1, High: long("h", 1000)},
		{Kind: 3, Level: 1},
		{Kind: 3, Entries: []page.Entry{plain("b"), plain("a"), plain("b"), signed("b")}},
		{Kind: 3, High: "a", Entries: []page.Entry{plain("b"), signed("c")}},
		{Kind: 3, Entries: []page.Entry{{Key: long("k", 3000), Value: long("v", 3000), Marked: true}}},
	} {
		for kind := range 6 {
			for _, key := range []string{"", "a", "b", "c", long("k", 65), long("k", 3000)} {
				Apply(p, Op{kind, key})
			}
		}
	}
}
