package buffer

import (
	"fmt"
	"math"
	"strconv"
	"testing"

	"concordance/api"
	"concordance/bitmap"
	"concordance/page"
	"concordance/space"
)

func TestP17_2Start(t *testing.T) {
	b := without(t, 6, 8)
	b.answers(Start(b.m), api.OK)
	n, _ := space.Get(b.m, "buffer")
	if n != bufferAt {
		t.Error(n)
	}
	b.is(bufferAt, leaf())
	b.pending(0)
	b.firstNone(api.OK)
	b.answers(Start(b.m), api.ErrState) // the changes may go on
	b.commits()
	b.answers(Start(b.m), api.ErrState)
	b.untouched()
	b.answers(space.Set(b.m, "buffer", 77), api.OK) // whatever it names
	b.commits()
	b.answers(Start(b.m), api.ErrState)
	b.untouched()
}

func TestP17_2StartHasNoRoom(t *testing.T) {
	b := without(t, 2, 8)
	b.answers(Start(b.m), api.ErrFull) // layer 12's Take
	b.untouched()
	b = without(t, 6, 8)
	for i := range 100 {
		if space.Set(b.m, strconv.Itoa(i), 1) != api.OK {
			break
		}
	}
	b.commits()
	b.answers(Start(b.m), api.ErrFull) // page 0
	b.aborts()
	b.answers(space.Set(b.m, "high", 2), api.OK)
}

// TestP17HowChangesStand in their tree, byte by byte.
func TestP17HowChangesStand(t *testing.T) {
	b := started(t, 12, 8, 3)
	b.adds(0x0102, 4, Op{Insert, "key"})
	b.adds(0x0102, 4, Op{Mark, ""})
	b.adds(0x0102, 4, Op{Purge, "\x00\xff"})
	b.adds(0, 5, Op{Unmark, "k"})
	b.adds(0xffff, 3, Op{Mark, "k"})
	want := []page.Entry{
		{Key: "\x00\x00\x00\x05\x00\x00\x00\x00\x00\x00", Value: "\x03k"},
		{Key: "\x01\x02\x00\x04\x00\x00\x00\x00\x00\x00", Value: "\x01key"},
		{Key: "\x01\x02\x00\x04\x00\x00\x00\x00\x00\x01", Value: "\x02"},
		{Key: "\x01\x02\x00\x04\x00\x00\x00\x00\x00\x02", Value: "\x04\x00\xff"},
		{Key: "\xff\xff\x00\x03\x00\x00\x00\x00\x00\x00", Value: "\x02k"},
	}
	b.is(bufferAt, leaf(want...))
	if n, e := space.Get(b.m, "pending"); n != 5 || e != api.OK {
		t.Error(n, e)
	}
	b.merges(0x0102, 4, 3)
	b.is(bufferAt, leaf(want[0], want[4]))
	b.adds(0x0102, 4, Op{Purge, "k"}) // the first one again
	b.is(bufferAt, leaf(want[0], page.Entry{Key: want[1].Key, Value: "\x04k"}, want[4]))
	if n, e := space.Get(b.m, "pending"); n != 3 || e != api.OK {
		t.Error(n, e)
	}
}

func TestP17_2AddErrArg(t *testing.T) {
	b := started(t, 12, 8, 2)
	b.answers(bitmap.Set(b.m, 4, bitmap.Flags{Closed: true}), api.OK) // ahead of ErrState, and of ErrFull
	b.commits()
	x := Op{Mark, "a"}
	for _, none := range []int{math.MinInt, -65536, -1, 65536, 65537, 1 << 40, math.MaxInt} {
		for _, most := range []int{0, 1000} {
			b.addsNot(none, 4, x, most, api.ErrArg)
			b.addsNot(1, none, x, most, api.ErrArg)
			b.addsNot(none, none, x, most, api.ErrArg)
		}
	}
	for _, kind := range []int{math.MinInt, -1, 0, 5, 255, 256, 257, math.MaxInt} {
		b.addsNot(1, 4, Op{kind, "a"}, 0, api.ErrArg)
	}
	for kind := range 6 {
		b.addsNot(1, 4, Op{kind, long("k", 65)}, 0, api.ErrArg)
		b.addsNot(1, 4, Op{kind, long("k", 1000)}, 1000, api.ErrArg)
	}
	b.addsNot(1, 800, x, 1000, api.ErrArg) // a page that has no flags: layer 16's error
	b.addsNot(1, 65535, x, 1000, api.ErrArg)
	b.untouched()
	b.adds(1, 3, x)
	b.addsNot(1, 3, Op{0, "a"}, 1000, api.ErrArg) // the changes may go on
	b.lists(1, 3, x)
}

// TestP17_2LastPlaces: indexes go from 0 to 65535, pages to the last one that has flags.
func TestP17_2LastPlaces(t *testing.T) {
	b := started(t, 12, 8, 1)
	for i, index := range []int{0, 1, 255, 256, 65534, 65535} {
		for j, n := range []int{0, 1, 255, 256, 798, 799} {
			x := Op{Unmark, fmt.Sprint(index, n)}
			b.adds(index, n, x)
			b.lists(index, n, x)
			b.pending(6*i + j + 1)
			b.hasFlags(n, bitmap.Flags{Class: map[bool]int{true: 3}[n == leafAt], Buffered: true})
			b.first(0, 0)
		}
	}
	for _, index := range []int{0, 1, 255, 256, 65534, 65535} {
		for _, n := range []int{0, 1, 255, 256, 798, 799} {
			b.lists(index, n, Op{Unmark, fmt.Sprint(index, n)})
		}
		b.lists(index, 2)
		b.lists(index, 254)
		b.lists(index, 257)
	}
	k64 := long("k", 64)
	for kind := 1; kind <= 4; kind++ {
		b.adds(7, leafAt, Op{kind, k64}, Op{kind, ""})
	}
	b.lists(7, leafAt, Op{1, k64}, Op{1, ""}, Op{2, k64}, Op{2, ""}, Op{3, k64}, Op{3, ""}, Op{4, k64}, Op{4, ""})
}

func TestP17_2ErrState(t *testing.T) {
	b := started(t, 12, 8, 2)
	for class := range 4 {
		for _, most := range []int{-1, 0, 1000} { // ahead of ErrFull
			b.flags(3, bitmap.Flags{Class: class, Closed: true})
			b.commits()
			for kind := 1; kind <= 4; kind++ {
				b.addsNot(1, 3, Op{kind, "a"}, most, api.ErrState)
			}
			b.untouched()
			b.flags(3, bitmap.Flags{Class: class, Closed: true, Buffered: true})
			b.addsNot(1, 3, Op{Mark, "a"}, most, api.ErrState)
		}
	}
	b.flags(3, bitmap.Flags{Class: 1})
	b.adds(1, 3, Op{Mark, "a"})
	b.flags(3, bitmap.Flags{Class: 1, Buffered: true, Closed: true})
	b.addsNot(1, 3, Op{Mark, "b"}, 1000, api.ErrState)
	b.lists(1, 3, Op{Mark, "a"}) // the changes may go on
	b.adds(1, 4, Op{Mark, "a"})
	b.pending(2)
}

// TestP17_2Most changes may wait in all, whatever they wait for.
func TestP17_2Most(t *testing.T) {
	b := started(t, 12, 8, 3)
	for kind := 1; kind <= 4; kind++ {
		for _, most := range []int{math.MinInt, -1, 0} {
			b.addsNot(1, 3, Op{kind, "a"}, most, api.ErrFull)
		}
	}
	b.untouched()
	for i := range 12 {
		n := leafAt + i%3
		x := Op{1 + i%4, strconv.Itoa(i)}
		b.addsNot(i%2, n, x, i, api.ErrFull)
		b.addsNot(i%2, n, x, i-1, api.ErrFull)
		b.pending(i)
		b.addsNot(i%2, n, x, i+1, api.OK)
		b.pending(i + 1)
	}
	x := Op{Mark, "a"}
	b.addsNot(5, 3, x, 12, api.ErrFull)
	l, _ := List(b.m, 1, 4)
	b.merges(1, 4, len(l))
	b.addsNot(5, 4, x, 12, api.OK)
	b.addsNot(5, 4, x, math.MaxInt, api.OK)
}

// TestP17_2Least: Inserts wait as long as they fit, whatever else waits.
func TestP17_2Least(t *testing.T) {
	least := []int{0, 64, 128, 256}
	for class, room := range least {
		for _, more := range []int{0, 1} {
			b := started(t, 30, 20, 2)
			b.flags(3, bitmap.Flags{Class: class})
			left := room
			for i := 0; left > 67; i++ {
				b.adds(1, 3, Op{Insert, fmt.Sprintf("%03d", i)}, Op{Mark, long("m", 64)})
				left -= 6
			}
			if left < 3 { // none goes in
				b.addsNot(1, 3, Op{Insert, ""}, 1000, api.ErrFull)
			} else if more == 0 {
				b.adds(1, 3, Op{Insert, long("k", left-3)}) // just the Least
				b.addsNot(1, 3, Op{Insert, ""}, 1000, api.ErrFull)
			} else {
				b.addsNot(1, 3, Op{Insert, long("k", min(64, left-2))}, 1000, map[bool]api.Errno{true: api.ErrFull}[left <= 66])
			}
			before, _ := List(b.m, 1, 3)
			b.addsNot(1, 3, Op{Insert, long("z", 64)}, 1000, api.ErrFull)
			b.lists(1, 3, before...)           // the changes may go on
			for kind := 2; kind <= 4; kind++ { // they take no room
				b.adds(1, 3, Op{kind, long("z", 64)})
			}
			b.lists(1, 3, append(before, Op{2, long("z", 64)}, Op{3, long("z", 64)}, Op{4, long("z", 64)})...)
			b.hasFlags(3, bitmap.Flags{Class: class, Buffered: true})
			b.adds(1, 4, Op{Insert, long("k", 64)}) // another leaf has its own room
		}
	}
}

// TestP17_2LeastOfSmallOnes: 64 bytes are sixteen Inserts of a key of one byte.
func TestP17_2LeastOfSmallOnes(t *testing.T) {
	b := started(t, 30, 8, 2)
	b.flags(3, bitmap.Flags{Class: 1})
	for i := range 16 {
		b.adds(1, 3, Op{Insert, string([]byte{'a' + byte(i)})})
	}
	b.addsNot(1, 3, Op{Insert, ""}, 1000, api.ErrFull)
	b.addsNot(1, 3, Op{Insert, "a"}, 1000, api.ErrFull) // also one that waits already
	b.adds(1, 3, Op{Purge, "a"})
	b.addsNot(1, 3, Op{Insert, "a"}, 1000, api.ErrFull)
	b.pending(17)
	b.merges(1, 3, 17)
	b.hasFlags(3, bitmap.Flags{Class: 3})
	b.adds(1, 3, Op{Insert, "a"})
}

// TestP17_2PendingIsAheadOfTheRoom: both are ErrFull; neither changes anything.
func TestP17_2ErrFullChangesNothing(t *testing.T) {
	b := started(t, 12, 8, 1)
	b.adds(1, 3, Op{Mark, "a"})
	b.commits()
	b.addsNot(1, 3, Op{Mark, "b"}, 1, api.ErrFull)
	b.untouched()
	b.flags(3, bitmap.Flags{Class: 0, Buffered: true})
	b.commits()
	b.addsNot(1, 3, Op{Insert, ""}, 1000, api.ErrFull)
	b.untouched()
}

// TestP17_2Buffered: whatever the Class, it stays.
func TestP17_2Buffered(t *testing.T) {
	b := started(t, 12, 8, 1)
	for class := range 4 {
		b.flags(3, bitmap.Flags{Class: class})
		b.adds(1, 3, Op{Mark, "a"})
		b.hasFlags(3, bitmap.Flags{Class: class, Buffered: true})
		b.adds(1, 3, Op{Mark, "a"}) // again
		b.lists(1, 3, Op{Mark, "a"}, Op{Mark, "a"})
		b.hasFlags(3, bitmap.Flags{Class: class, Buffered: true})
		b.is(3, leaf()) // the page itself isn't changed
		b.aborts()
		b.lists(1, 3)
		b.pending(0)
	}
}

// TestP17_2ManyOfOnePage, and of others beside it: the buffer is split again and
// again.
func TestP17_2ManyOfOnePage(t *testing.T) {
	const all = 450
	b := started(t, 200, 64, 4)
	want := [4][]Op{}
	for i := range all {
		at := min(3, i%7) // most wait for the last page
		x := Op{2 + i%3, long(strconv.Itoa(i), 5+i%20)}
		b.adds(at, leafAt+at, x)
		want[at] = append(want[at], x)
		if i%50 == 0 {
			b.commits()
		}
		if i%100 == 99 {
			for at, l := range want {
				b.lists(at, leafAt+at, l...)
			}
		}
	}
	b.pending(all)
	b.first(0, leafAt)
	if p := b.page(bufferAt); p.Level < 2 {
		t.Error(p.Level)
	}
	raw := b.raw()
	for i, e := range raw { // rising keys, none twice
		if i > 0 && e.Key <= raw[i-1].Key {
			t.Fatal(e)
		}
	}
	b.commits()
	left := all
	for at, l := range want {
		b.lists(at, leafAt+at, l...)
		b.first(at, leafAt+at)
		b.merges(at, leafAt+at, len(l))
		b.commits()
		left -= len(l)
		b.pending(left)
		b.lists(at, leafAt+at)
	}
	b.firstNone(api.OK)
	if l := b.raw(); len(l) != 0 {
		t.Error(l)
	}
}

// TestP17_2NoRoomInTheStore: the buffer can't grow.
func TestP17_2NoRoomInTheStore(t *testing.T) {
	b := started(t, 5, 8, 1)
	n := 0
	for ; n < 100; n++ {
		if e := Add(b.m, 1, 3, Op{Mark, long(strconv.Itoa(n), 60)}, 1000); e != api.OK {
			b.answers(e, api.ErrFull)
			break
		}
		b.commits()
	}
	b.aborts()
	if n != 6 {
		t.Error(n)
	}
	b.pending(n)
	l, e := List(b.m, 1, 3)
	if len(l) != n || e != api.OK {
		t.Error(l, e)
	}
	b.merges(1, 3, n)
}
