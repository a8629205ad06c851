package index

import (
	"math"
	"strings"
	"testing"

	"concordance/api"
	"concordance/bitmap"
	"concordance/buffer"
	"concordance/mini"
	"concordance/page"
	"concordance/record"
	"concordance/space"
)

// TestP18_2WrongWorks answer ErrArg, wherever they are, and go nowhere.
func TestP18_2WrongWorks(t *testing.T) {
	b := twoLeaves(t)
	k65 := long("k") + "_"
	for _, waits := range []bool{true, false} {
		b.x.Waits = waits
		for _, c := range []buffer.Op{
			{Kind: insert, Key: k65},
			{Kind: mark, Key: k65},
			{Kind: unmark, Key: k65},
			{Kind: purge, Key: strings.Repeat("k", 1000)},
			{Kind: 0, Key: "a"},
			{Kind: 5, Key: "a"},
			{Kind: -1, Key: ""},
			{Kind: 256 + insert, Key: "a"},
			{Kind: math.MinInt, Key: "a"},
			{Kind: math.MaxInt, Key: k65},
		} {
			w := Start(b.x, c, "", 9)
			if w == nil {
				t.Fatal("nil")
			}
			for range 3 {
				b.stepsNot(w, no, api.ErrArg)
			}
			b.stepsNot(w, nil, api.ErrArg)
			if w.Applied() {
				t.Error("Applied")
			}
			b.untouched()
			if p, e := w.Step(nil, yes); p != (Progress{}) || e != api.ErrArg {
				t.Error(p, e)
			}
			b.m.Abort()
			b.stepsNot(w, yes, api.ErrArg) // ahead of ErrState
			b.m = b.s.Begin()
		}
	}
	b.x.Waits = true
	b.steps(b.work(mark, long("k")), no, Progress{Applied: true, Over: true}) // the longest key that is one
}

// TestP18_2ValuesOfAnIndexThatWaits: what waits has none, so none may be inserted.
func TestP18_2ValuesOfAnIndexThatWaits(t *testing.T) {
	b := twoLeaves(t)
	for _, held := range []func(int) bool{yes, no} {
		w := Start(b.x, buffer.Op{Kind: insert, Key: "bb"}, "v", 9)
		b.stepsNot(w, held, api.ErrArg)
		b.stepsNot(w, held, api.ErrArg)
		b.untouched()
		for _, kind := range []int{mark, unmark, purge} { // they have no need of it
			b.answers(b.goesOn(Start(b.x, buffer.Op{Kind: kind, Key: long("a")}, "v", 9), held, isOver), api.OK)
		}
	}
	b.sound()
}

func TestP18_2NilWork(t *testing.T) {
	var w *Work
	b := twoLeaves(t)
	b.stepsNot(w, yes, api.ErrArg)
	b.stepsNot(w, nil, api.ErrArg)
	b.untouched()
	if p, e := w.Step(nil, nil); p != (Progress{}) || e != api.ErrArg {
		t.Error(p, e)
	}
	if w.Applied() {
		t.Error("Applied")
	}
	b.stepsNot(&Work{}, yes, api.ErrArg)
	b.untouched()
}

// TestP18_1BehindOver nothing happens, whichever changes are told.
func TestP18_1BehindOver(t *testing.T) {
	b := twoLeaves(t)
	w := b.work(insert, "bb")
	b.answers(b.goesOn(w, no, isOver), api.OK)
	for range 3 {
		p, e := w.Step(b.m, no)
		if p != (Progress{Over: true}) || e != api.OK || !w.Applied() {
			t.Error(p, e)
		}
		b.untouched()
	}
	if p, e := w.Step(nil, nil); p != (Progress{Over: true}) || e != api.OK {
		t.Error(p, e)
	}
	b.m.Abort()
	if p, e := w.Step(b.m, yes); p != (Progress{Over: true}) || e != api.OK {
		t.Error(p, e)
	}
}

// TestP18_1Start: whatever it is told, there is a work; it begins at the root.
func TestP18_1Start(t *testing.T) {
	b := twoLeaves(t)
	for _, root := range []int{math.MinInt, -1, 60, 800, 65536, math.MaxInt} {
		x := Index{ID: id, Root: root, Waits: true}
		w := Start(x, buffer.Op{Kind: mark, Key: "a"}, "", 9)
		b.stepsNot(w, no, api.ErrArg) // layer 11's
		_, e := x.Entries(b.m)
		b.answers(e, api.ErrArg)
	}
	for _, root := range []int{0, flagsAt, 40} {
		x := Index{ID: id, Root: root}
		w := Start(x, buffer.Op{Kind: mark, Key: "a"}, "", 9)
		b.stepsNot(w, no, api.ErrCorrupt) // no node
		l, e := x.Entries(b.m)
		if l != nil || e != api.ErrCorrupt {
			t.Error(l, e)
		}
	}
	b.untouched()
	for _, id := range []int{-1, 65536, math.MaxInt} {
		x := Index{ID: id, Root: rootAt, Waits: true}
		w := Start(x, buffer.Op{Kind: mark, Key: long("a")}, "", 9)
		b.stepsNot(w, no, api.ErrArg) // layer 17's
		b.stepsNot(w, no, api.ErrArg)
		b.untouched()
		b.steps(w, yes, Progress{})
		b.steps(w, yes, Progress{Applied: true, Over: true})
	}
	for _, id := range []int{0, 65535} {
		x := Index{ID: id, Root: rootAt, Waits: true}
		b.steps(Start(x, buffer.Op{Kind: mark, Key: long("e")}, "", 9), no, Progress{Applied: true, Over: true})
		b.answers(x.Ready(b.m, 5), api.OK)
		b.commits()
	}
}

func TestP18_2Ready(t *testing.T) {
	b := twoLeaves(t)
	b.waits(insert, "bb")
	b.waits(mark, long("b"))
	b.waits(mark, long("e"))
	want := leaf(5, long("e"), plain(long("a")), signed(long("b")), plain("bb"), plain(long("c")), plain(long("d")))
	without := b.x
	without.Waits = false
	for _, n := range []int{-1, 0, 4, 5, 60, 800, math.MaxInt} {
		b.answers(without.Ready(b.m, n), api.OK)
	}
	b.answers(without.Ready(nil, 4), api.OK)
	b.untouched()
	b.answers(b.x.Ready(nil, 4), api.ErrArg)
	b.answers(b.x.Ready(b.m, -1), api.ErrArg)
	b.answers(b.x.Ready(b.m, 800), api.ErrArg)
	b.answers(b.x.Ready(b.m, rootAt), api.OK) // for it nothing waits
	b.answers(b.x.Ready(b.m, 0), api.OK)
	b.untouched()
	other := Index{ID: id + 1, Root: rootAt, Waits: true}
	if p, e := other.Whole(b.m, 4); len(p.Entries) != 4 || e != api.OK {
		t.Error(p, e)
	}
	b.answers(b.x.Ready(b.m, 4), api.OK)
	b.commits()
	b.is(4, want)
	b.flags(4, bitmap.Flags{Class: 2})
	b.flags(5, bitmap.Flags{Class: 2, Buffered: true})
	b.pending(1)
	b.answers(b.x.Ready(b.m, 4), api.OK)
	b.untouched()
	b.sound()
}

func TestP18_2Whole(t *testing.T) {
	b := twoLeaves(t)
	was := b.page(5)
	b.waits(purge, long("a"))
	b.waits(mark, long("a"))
	b.waits(purge, long("a"))
	b.waits(insert, "0")
	b.waits(mark, "0")
	b.waits(insert, "bb")
	b.waits(unmark, "none")
	want := leaf(5, long("e"), signed("0"), plain(long("b")), plain("bb"), plain(long("c")), plain(long("d")))
	old := b.page(4)
	for range 2 {
		b.whole(4, want)
		b.whole(5, was)
		b.whole(rootAt, b.page(rootAt)) // also what is no leaf
		b.whole(0, b.page(0))
		b.whole(40, page.Page{})
	}
	b.is(4, old)
	b.pending(7)
	b.flags(4, bitmap.Flags{Class: 2, Buffered: true})
	b.untouched() // nothing was changed
	p, e := b.x.Whole(b.m, 4)
	q, _ := b.m.Page(4)
	if p.LSN != q.LSN || e != api.OK {
		t.Error(p.LSN, e)
	}
	if !b.asked(4) {
		t.Error("left")
	}
	b.aborts()
	without := b.x
	without.Waits = false
	if p, e := without.Whole(b.m, 4); len(p.Entries) != 4 || e != api.OK {
		t.Error(p, e)
	}
	for _, n := range []int{math.MinInt, -1, 60, 800, math.MaxInt} {
		b.wholeNot(n, api.ErrArg)
	}
	b.untouched()
	b.answers(b.x.Ready(b.m, 4), api.OK)
	b.is(4, want)
	b.whole(4, want)
}

// TestP18_2WhatDoesNotGoIn is ErrCorrupt, and nothing is changed.
func TestP18_2WhatDoesNotGoIn(t *testing.T) {
	under := leaf(5, long("e"), plain(long("a")))
	fill := leaf(5, long("e"), plain(long("a")), plain(long("b")), plain(long("c")), plain(long("d")), plain(long("da")), plain(long("db")))
	for i, c := range []struct {
		p page.Page
		x buffer.Op
	}{
		{page.Page{Kind: 9}, buffer.Op{Kind: mark, Key: "a"}},
		{leaf(5, long("e"), plain("b"), plain("a")), buffer.Op{Kind: mark, Key: "a"}},
		{under, buffer.Op{Kind: insert, Key: long("e")}},
		{fill, buffer.Op{Kind: insert, Key: long("dc")}},
	} {
		b := twoLeaves(t)
		b.lays(4, c.p)
		b.answers(buffer.Add(b.m, id, 4, c.x, 9), api.OK)
		b.commits()
		b.wholeNot(4, api.ErrCorrupt)
		l, e := b.x.Entries(b.m)
		if l != nil || e != api.ErrCorrupt {
			t.Error(i, l, e)
		}
		b.answers(b.x.Ready(b.m, 4), api.ErrCorrupt)
		b.untouched()
		for _, kind := range []int{insert, mark} {
			w := b.work(kind, "a0")
			b.steps(w, yes, Progress{})
			b.stepsNot(w, yes, api.ErrCorrupt)
			b.untouched()
		}
		b.x.Waits = false
		b.whole(4, c.p)
	}
	b := twoLeaves(t)
	b.lays(4, above(1, 5, long("e"), link("", 5))) // a node, but no leaf
	b.answers(buffer.Add(b.m, id, 4, buffer.Op{Kind: mark, Key: "a"}, 9), api.OK)
	b.commits()
	b.wholeNot(4, api.ErrCorrupt)
	b.answers(b.x.Ready(b.m, 4), api.ErrCorrupt)
	b.untouched()
}

func TestP18_2Entries(t *testing.T) {
	b := started(t, 60, 30, true)
	b.entries()
	b.does(insert, "b")
	b.does(insert, "a")
	b.entries(plain("a"), plain("b"))
	b.does(insert, letters("cdefghij")...)
	want := []page.Entry{plain("a"), plain("b")}
	for _, key := range letters("cdefghij") {
		want = append(want, plain(key))
	}
	b.entries(want...)
	b.untouched()
	b.waits(mark, "a")
	want[0].Marked = true
	b.entries(want...)
	b.waits(purge, "a")
	b.entries(want[1:]...)
	b.waits(insert, "a")
	want[0].Marked = false
	b.entries(want...)
	b.untouched()
	b.pending(3)
	b.reopens(2) // a leaf, and one page beside it
	b.entries(want...)
	b.untouched()
}

// TestP18_2RowsLaidByHand aren't gone over round and round.
func TestP18_2RowsLaidByHand(t *testing.T) {
	b := twoLeaves(t)
	b.lays(5, leaf(4, long("h"), plain(long("e"))))
	l, e := b.x.Entries(b.m)
	if l != nil || e != api.ErrCorrupt {
		t.Error(l, e)
	}
	b.lays(5, page.Page{Kind: 4})
	_, e = b.x.Entries(b.m)
	b.answers(e, api.ErrCorrupt)
	w := b.work(mark, long("e"))
	b.steps(w, yes, Progress{})
	b.stepsNot(w, yes, api.ErrCorrupt)
	b.lays(rootAt, above(1, 0, "", link("b", 4)))
	b.stepsNot(b.work(mark, "a"), yes, api.ErrNone) // layer 14's
}

// TestP18_1PostsOfTreesLaidByHand: what isn't found on the right is ErrCorrupt.
func TestP18_1PostsOfTreesLaidByHand(t *testing.T) {
	for i, lay := range []struct {
		n int
		p page.Page
	}{
		{5, leaf(0, "", plain(long("e")))},       // the last one
		{5, leaf(6, long("z"), plain("f"))},      // beyond the Post's Key
		{5, leaf(5, long("f"), plain("f"))},      // round and round
		{5, page.Page{Kind: 4}},                  // no node
		{5, above(1, 0, "", link(long("e"), 6))}, // no leaf
		{5, above(1, 6, long("i"), link(long("e"), 6))},
	} {
		b := twoLeaves(t)
		b.does(insert, letters("ijk")...)
		w := b.work(insert, long("l"))
		b.behind(w, yes)
		b.lays(lay.n, lay.p)
		for range 2 {
			p, e := w.Step(b.m, yes)
			if p != (Progress{}) || e != api.ErrCorrupt {
				t.Error(i, p, e)
			}
			b.aborts()
		}
	}
	b := twoLeaves(t) // a root of Level 0 that has a right neighbour
	b.lays(rootAt, leaf(4, "b", plain("a")))
	w := b.work(insert, "cc")
	b.steps(w, yes, Progress{})
	b.steps(w, yes, Progress{Applied: true})
	b.flags(4, bitmap.Flags{Class: 2, Closed: true}) // no node above has an entry
	b.stepsNot(w, yes, api.ErrState)                 // layer 14's
	b.untouched()
}

// TestP18NumbersThatAreNotSet: of an index that Waits.
func TestP18NumbersThatAreNotSet(t *testing.T) {
	for _, name := range []string{"bits", "buffer"} {
		b := twoLeaves(t)
		b.answers(space.Set(b.m, name, 0), api.OK)
		b.commits()
		w := b.work(mark, long("a"))
		b.stepsNot(w, no, api.ErrCorrupt)
		b.untouched()
		b.steps(w, yes, Progress{})
		if name == "bits" {
			b.stepsNot(w, yes, api.ErrCorrupt)
			b.answers(b.x.Ready(b.m, 4), api.ErrCorrupt)
			b.untouched()
			continue
		}
		b.wholeNot(4, api.ErrCorrupt)
		l, e := b.x.Entries(b.m)
		if l != nil || e != api.ErrCorrupt {
			t.Error(l, e)
		}
		b.answers(b.x.Ready(b.m, 4), api.OK) // it isn't Buffered
		b.untouched()
		b.steps(w, yes, Progress{Applied: true, Over: true}) // nothing waits for it
	}
	b := twoLeaves(t)
	b.waits(mark, long("a"))
	b.answers(space.Set(b.m, "pending", 0), api.OK)
	b.commits()
	b.answers(b.x.Ready(b.m, 4), api.ErrCorrupt)
	b.untouched()
	b.steps(Start(b.x, buffer.Op{Kind: mark, Key: long("b")}, "", 1), no, Progress{Applied: true, Over: true})
}

// TestP18ErrorsOfTheChanges come as they come.
func TestP18ErrorsOfTheChanges(t *testing.T) {
	at := func(x Index, kind int, held func(int) bool) func(*mini.Mini) (bool, api.Errno) {
		return func(m *mini.Mini) (bool, api.Errno) {
			p, e := Start(x, buffer.Op{Kind: kind, Key: long("a")}, "", 9).Step(m, held)
			return p != (Progress{}), e
		}
	}
	x := Index{ID: id, Root: rootAt, Waits: true}
	y := Index{ID: id, Root: rootAt}
	whole := func(x Index) func(*mini.Mini) (bool, api.Errno) {
		return func(m *mini.Mini) (bool, api.Errno) {
			p, e := x.Whole(m, 4)
			return p.Kind != 0, e
		}
	}
	entries := func(x Index) func(*mini.Mini) (bool, api.Errno) {
		return func(m *mini.Mini) (bool, api.Errno) {
			l, e := x.Entries(m)
			return l != nil, e
		}
	}
	for name, call := range map[string]func(*mini.Mini) (bool, api.Errno){
		"Step":               at(x, mark, no),
		"Step insert":        at(x, insert, yes),
		"Step without Waits": at(y, purge, no),
		"Ready":              func(m *mini.Mini) (bool, api.Errno) { return false, x.Ready(m, 4) },
		"Whole":              whole(x),
		"Whole without":      whole(y),
		"Entries":            entries(x),
		"Entries without":    entries(y),
	} {
		t.Run(name, func(t *testing.T) {
			b := twoLeaves(t)
			b.waits(mark, long("b"))
			b.reopens(3)
			refused := func(want api.Errno) {
				t.Helper()
				if more, e := call(b.m); more || e != want {
					t.Errorf("%t %d, not %d", more, e, want)
				}
			}
			if more, e := call(nil); more || e != api.ErrArg {
				t.Error("nil", more, e)
			}
			b.m.Abort()
			refused(api.ErrState)
			b.m = b.s.Begin()
			b.m.Commit(record.Record{Kind: record.Change})
			refused(api.ErrState)
			other := b.s.Begin()
			for n := 10; n < 13; n++ {
				other.Page(n)
			}
			b.m = b.s.Begin()
			refused(api.ErrPins)
			other.Abort()
			for n := range 13 {
				b.s.Evict(n)
			}
			b.d.Blow()
			refused(api.ErrPower)
			b.d.On()
			for _, bytes := range []string{strings.Repeat("torn", 128), page.Build(2, strings.Repeat("x", 496))} {
				for _, n := range []int{0, flagsAt, bufferAt, rootAt, 4} {
					b.s.Evict(n)
					b.laid(n, bytes)
				}
				refused(api.ErrCorrupt)
			}
			b.untouched()
		})
	}
}

// TestP18_1FewFrames: a Step asks for no more pages than it changes, and one.
func TestP18_1FewFrames(t *testing.T) {
	b := twoLeaves(t)
	b.reopens(4)
	b.waits(insert, "bb")
	w := b.work(mark, "bb")
	b.steps(w, yes, Progress{})
	b.reopens(5) // page 0, the flags, the buffer, the leaf, and one more
	b.steps(w, yes, Progress{Applied: true, Over: true})
	b.waits(insert, "cc")
	b.entries(plain(long("a")), plain(long("b")), signed("bb"), plain(long("c")), plain("cc"), plain(long("d")),
		plain(long("e")), plain(long("f")), plain(long("g")), plain(long("h")))
	b.sound()
}
