package index

import (
	"fmt"
	"math/rand/v2"
	"slices"
	"testing"

	"concordance/api"
	"concordance/bitmap"
	"concordance/blink"
	"concordance/buffer"
	"concordance/page"
	"concordance/record"
)

const (
	insert = buffer.Insert
	mark   = buffer.Mark
	unmark = buffer.Unmark
	purge  = buffer.Purge
)

// TestP18_1OneLeaf: it is the root, for which nothing waits, and of which there are
// no flags.
func TestP18_1OneLeaf(t *testing.T) {
	for _, waits := range []bool{true, false} {
		for _, held := range []func(int) bool{yes, no, nil} {
			b := started(t, 20, 8, waits)
			for _, key := range []string{"b", "", "a", long("c")} {
				w := b.work(insert, key)
				if w.Applied() {
					t.Error("Applied")
				}
				b.steps(w, held, Progress{Applied: true, Over: true})
				if !w.Applied() {
					t.Error("not Applied")
				}
				b.steps(w, held, Progress{Over: true})
			}
			b.steps(b.work(mark, "a"), held, Progress{Applied: true, Over: true})
			b.steps(b.work(unmark, ""), held, Progress{Applied: true, Over: true})
			b.steps(b.work(purge, "b"), held, Progress{Applied: true, Over: true})
			b.is(rootAt, leaf(0, "", plain(""), signed("a"), plain("b"), plain(long("c"))))
			b.steps(b.work(unmark, "a"), held, Progress{Applied: true, Over: true})
			b.steps(b.work(mark, "b"), held, Progress{Applied: true, Over: true})
			b.steps(b.work(purge, "b"), held, Progress{Applied: true, Over: true})
			b.is(rootAt, leaf(0, "", plain(""), plain("a"), plain(long("c"))))
			b.entries(plain(""), plain("a"), plain(long("c")))
			b.sound()
		}
	}
}

// TestP18_1RootIsSplit: there is no Post; both halves have flags.
func TestP18_1RootIsSplit(t *testing.T) {
	b := started(t, 20, 20, true)
	for _, key := range letters("abcdefg") {
		b.steps(b.work(insert, key), no, Progress{Applied: true, Over: true})
	}
	b.sound()
	b.steps(b.work(insert, long("h")), no, Progress{Applied: true, Over: true})
	b.row(4, 5)
	b.flags(rootAt, bitmap.Flags{})
	b.flags(4, bitmap.Flags{Class: 2}) // 489 - 64 - 4*67
	b.flags(5, bitmap.Flags{Class: 2})
	b.sound()
}

// twoLeaves has the leaves 4, of a to d, and 5, of e to h.
func twoLeaves(t *testing.T) *base {
	t.Helper()
	b := started(t, 60, 30, true)
	b.does(insert, letters("abcdefgh")...)
	b.row(4, 5)
	return b
}

// TestP18_1Held leaves are gone to; for others a change waits.
func TestP18_1Held(t *testing.T) {
	b := twoLeaves(t)
	was4, was5 := b.page(4), b.page(5)
	w := b.work(mark, long("a"))
	b.steps(w, no, Progress{Applied: true, Over: true}) // at the root
	if !w.Applied() {
		t.Error("not Applied")
	}
	b.is(4, was4)
	b.lists(4, buffer.Op{Kind: mark, Key: long("a")})
	b.flags(4, bitmap.Flags{Class: 2, Buffered: true})
	b.pending(1)
	w = b.work(mark, long("e"))
	b.steps(w, only(4), Progress{Applied: true, Over: true})
	b.is(5, was5)
	b.pending(2)
	w = b.work(purge, long("a")) // it is held: what waits comes first
	b.steps(w, only(4), Progress{})
	if w.Applied() {
		t.Error("Applied")
	}
	b.pending(2)
	b.steps(w, no, Progress{Applied: true, Over: true})
	b.is(4, leaf(5, long("e"), plain(long("b")), plain(long("c")), plain(long("d"))))
	b.flags(4, bitmap.Flags{Class: 2})
	b.pending(1)
	b.is(5, was5)
	b.sound()
}

// TestP18_1HeldIsAskedOfTheLeaf, once, at the page above it.
func TestP18_1HeldIsAskedOfTheLeaf(t *testing.T) {
	b := twoLeaves(t)
	for _, waits := range []bool{true, false} {
		b.x.Waits = waits
		var asked []int
		held := func(n int) bool {
			asked = append(asked, n)
			return true
		}
		w := b.work(mark, long("e"))
		b.answers(b.goesOn(w, held, isOver), api.OK)
		b.steps(w, held, Progress{Over: true})
		if want := []int{5}; waits && !slices.Equal(asked, want) || !waits && len(asked) > 0 {
			t.Error(waits, asked)
		}
	}
}

// TestP18_1HeldThatIsNil holds nothing.
func TestP18_1HeldThatIsNil(t *testing.T) {
	b := twoLeaves(t)
	b.steps(b.work(mark, long("a")), nil, Progress{Applied: true, Over: true})
	b.pending(1)
	b.x.Waits = false
	w := b.work(mark, long("a"))
	b.steps(w, nil, Progress{})
	b.steps(w, nil, Progress{Applied: true, Over: true})
	b.pending(1)
}

// TestP18_1NoWaits: an index without Waits has no flags, and nothing waits for its
// leaves.
func TestP18_1NoWaits(t *testing.T) {
	b := started(t, 80, 30, false)
	var want []page.Entry
	value := long("value") + long("value")[:36]
	for _, key := range letters("abcdefghijklmnopqrstuvwxyz") {
		w := Start(b.x, buffer.Op{Kind: insert, Key: key}, value, 1000)
		b.answers(b.goesOn(w, no, isOver), api.OK)
		want = append(want, page.Entry{Key: key, Value: value})
		b.sound()
	}
	b.entries(want...)
	for i := range want {
		kind := []int{mark, unmark, purge}[i%3]
		b.answers(b.goesOn(Start(b.x, buffer.Op{Kind: kind, Key: want[i].Key}, "", 0), no, isOver), api.OK)
		want[i].Marked = kind == mark
	}
	b.entries(want...)
	for i := 0; i < len(want); i += 3 {
		b.does(purge, want[i].Key)
	}
	b.entries(slices.DeleteFunc(want, func(e page.Entry) bool { return e.Marked })...)
	b.sound()
}

// TestP18_1NoWaitsNeedsNoFlags: neither flags nor a buffer are asked for.
func TestP18_1NoWaitsNeedsNoFlags(t *testing.T) {
	b := started(t, 80, 30, false)
	b.lays(flagsAt, page.Page{Kind: 9})
	b.lays(bufferAt, page.Page{Kind: 9})
	keys := letters("abcdefghijklmnopq")
	b.does(insert, keys...)
	b.does(mark, keys[3])
	b.answers(b.x.Ready(b.m, 4), api.OK)
	l, e := b.x.Entries(b.m)
	if len(l) != len(keys) || e != api.OK {
		t.Error(l, e)
	}
}

func TestP18_1ErrExists(t *testing.T) {
	b := twoLeaves(t)
	exists := func(key string) {
		t.Helper()
		w := b.work(insert, key)
		b.steps(w, yes, Progress{})
		b.stepsNot(w, no, api.ErrExists)
		b.untouched() // the changes may go on
		b.stepsNot(w, no, api.ErrExists)
		if w.Applied() {
			t.Error("Applied")
		}
		b.untouched()
	}
	exists(long("b"))
	b.does(mark, long("b"))
	exists(long("b")) // also where it is marked
	b.waits(insert, "bb")
	exists("bb") // also where it waits
	exists(long("b"))
	b.lists(4, buffer.Op{Kind: insert, Key: "bb"})
	b.does(mark, "h")
	b.waits(mark, long("h"))
	b.waits(purge, long("h")) // it isn't there any more, by what waits
	w := b.work(insert, long("h"))
	b.steps(w, yes, Progress{})
	b.steps(w, yes, Progress{Applied: true, Over: true})
	b.is(5, leaf(0, "", plain(long("e")), plain(long("f")), plain(long("g")), plain(long("h"))))
	b.waits(insert, long("h")) // what waits tells no ErrExists
	b.sound()
}

// TestP18_1ErrExistsWithoutWaits comes behind ErrArg, as in layer 13.
func TestP18_1ErrExistsWithoutWaits(t *testing.T) {
	b := started(t, 20, 8, false)
	b.does(insert, "a")
	for _, c := range []struct {
		key   string
		bytes int
		want  api.Errno
	}{{"a", 100, api.ErrExists}, {"a", 101, api.ErrArg}, {"b", 101, api.ErrArg}, {"b", 5000, api.ErrArg}} {
		w := Start(b.x, buffer.Op{Kind: insert, Key: c.key}, string(make([]byte, c.bytes)), 9)
		b.stepsNot(w, no, c.want)
		b.untouched()
	}
}

// TestP18_1NoSuchEntry: Mark, Unmark and Purge change nothing then.
func TestP18_1NoSuchEntry(t *testing.T) {
	b := twoLeaves(t)
	for _, kind := range []int{mark, unmark, purge} {
		for _, key := range []string{"", "bb", long("z"), "zz"} {
			w := b.work(kind, key)
			b.steps(w, yes, Progress{})
			p, e := w.Step(b.m, yes)
			if p != (Progress{Applied: true, Over: true}) || e != api.OK || !w.Applied() {
				t.Error(p, e)
			}
			if n, e := b.m.Commit(record.Record{Kind: record.Change}); n != 0 || e != api.OK {
				t.Error(n, e)
			}
			b.m = b.s.Begin()
		}
	}
	b.does(purge, long("a")) // it isn't marked
	var want []page.Entry
	for _, key := range letters("abcdefgh") {
		want = append(want, plain(key))
	}
	b.entries(want...)
}

// TestP18_1Again: where it may not wait, the work goes on to its leaf.
func TestP18_1Again(t *testing.T) {
	for name, c := range map[string]struct {
		most int
		kind int
		lay  bitmap.Flags
	}{
		"most is 0":      {0, mark, bitmap.Flags{Class: 2}},
		"most is 1":      {1, mark, bitmap.Flags{Class: 2}},
		"most is below":  {-5, insert, bitmap.Flags{Class: 2}},
		"Closed":         {1000, mark, bitmap.Flags{Class: 2, Closed: true}},
		"no room":        {1000, insert, bitmap.Flags{Class: 0}},
		"just no room":   {1000, insert, bitmap.Flags{Class: 1}},
		"Closed and all": {0, insert, bitmap.Flags{Closed: true}},
	} {
		b := twoLeaves(t)
		b.waits(mark, long("e")) // one waits for another leaf
		was := b.page(4)
		b.setsFlags(4, c.lay)
		key := long("bb")
		if c.kind == mark {
			key = long("a")
		}
		w := Start(b.x, buffer.Op{Kind: c.kind, Key: key}, "", c.most)
		p, e := w.Step(b.m, no)
		if p != (Progress{Again: true}) || e != api.OK || w.Applied() {
			t.Error(name, p, e)
		}
		b.untouched()
		applied := 0
		for i := range 3 {
			p, e := w.Step(b.m, no) // nothing waits for it any more
			if e != api.OK || p.Again {
				t.Error(name, p, e)
			}
			b.commits()
			if p.Applied {
				applied++
			}
			if p.Over {
				break
			}
			if i == 2 {
				t.Error(name, "it doesn't end")
			}
		}
		if applied != 1 || !w.Applied() || same(was, b.page(4)) {
			t.Error(name, applied)
		}
		b.pending(1)
		b.lists(4)
	}
}

// TestP18_1RoomJust: what fits waits.
func TestP18_1RoomJust(t *testing.T) {
	b := twoLeaves(t)
	b.setsFlags(4, bitmap.Flags{Class: 1})
	b.steps(b.work(insert, long("bb")[:61]), no, Progress{Applied: true, Over: true})
	b.steps(b.work(insert, ""), no, Progress{Again: true})
	b.steps(Start(b.x, buffer.Op{Kind: mark, Key: "x"}, "", 2), no, Progress{Applied: true, Over: true})
	b.steps(Start(b.x, buffer.Op{Kind: mark, Key: "x"}, "", 2), no, Progress{Again: true})
}

// TestP18_1SplitLeaf is Closed, till its Post is settled.
func TestP18_1SplitLeaf(t *testing.T) {
	b := twoLeaves(t)
	b.does(insert, letters("ijk")...)
	b.row(4, 5)
	w := b.work(insert, long("l"))
	b.steps(w, yes, Progress{})
	b.steps(w, yes, Progress{Applied: true}) // a Post is kept
	b.row(4, 5, 6)
	b.is(rootAt, above(1, 0, "", link("", 4), link(long("e"), 5)))
	b.flags(4, bitmap.Flags{Class: 2})
	b.flags(5, bitmap.Flags{Class: 2, Closed: true})
	b.flags(6, bitmap.Flags{Class: 2})
	b.sound()
	b.steps(b.work(mark, long("e")), no, Progress{Again: true}) // none may wait for it
	b.steps(b.work(mark, long("l")), no, Progress{Again: true}) // that one is found by its left neighbour
	b.steps(w, no, Progress{Over: true})
	b.is(rootAt, above(1, 0, "", link("", 4), link(long("e"), 5), link(long("i"), 6)))
	b.flags(5, bitmap.Flags{Class: 2})
	b.sound()
	b.steps(w, no, Progress{Over: true})
	b.steps(b.work(mark, long("e")), no, Progress{Applied: true, Over: true})
	b.steps(b.work(mark, long("l")), no, Progress{Applied: true, Over: true})
	b.sound()
}

// TestP18_1LeftBehind: what a work has left is found, and settled, by one that
// comes by it.
func TestP18_1LeftBehind(t *testing.T) {
	b := twoLeaves(t)
	b.does(insert, letters("ijk")...)
	b.behind(b.work(insert, long("l")), yes)
	b.row(4, 5, 6)
	b.flags(5, bitmap.Flags{Class: 2, Closed: true})
	w := b.work(mark, long("k"))
	b.steps(w, no, Progress{Again: true})
	b.steps(w, no, Progress{})              // the root
	b.steps(w, no, Progress{})              // the leaf 5 doesn't cover it
	b.steps(w, no, Progress{Applied: true}) // the leaf 6
	b.flags(5, bitmap.Flags{Class: 2, Closed: true})
	b.steps(w, no, Progress{Over: true}) // what was Missed
	b.flags(5, bitmap.Flags{Class: 2})
	b.sound()
	var want []page.Entry
	for _, key := range letters("abcdefghijkl") {
		want = append(want, page.Entry{Key: key, Marked: key[0] == 'k'})
	}
	b.entries(want...)
}

// TestP18_1SplitTwice, ahead of the Settle of the first time: the leaf whose High
// is the Post's Key is another one then.
func TestP18_1SplitTwice(t *testing.T) {
	for _, order := range [][]int{{0, 1}, {1, 0}} {
		b := twoLeaves(t)
		b.does(insert, letters("ijk")...)
		first := b.work(insert, long("l"))
		b.behind(first, yes)
		b.does(insert, long("ea"), long("eb")) // into the leaf 5, at the left
		second := b.work(insert, long("ec"))
		b.behind(second, yes)
		b.row(4, 5, 7, 6)
		b.flags(5, bitmap.Flags{Class: 2, Closed: true})
		b.flags(7, bitmap.Flags{Class: 2, Closed: true})
		b.flags(6, bitmap.Flags{Class: 2})
		b.sound()
		works := []*Work{first, second}
		b.steps(works[order[0]], no, Progress{Over: true})
		b.flags(5, bitmap.Flags{Class: 2, Closed: order[0] == 0})
		b.flags(7, bitmap.Flags{Class: 2, Closed: order[0] == 1})
		b.sound()
		b.steps(works[order[1]], no, Progress{Over: true})
		b.flags(5, bitmap.Flags{Class: 2})
		b.flags(7, bitmap.Flags{Class: 2})
		b.is(rootAt, above(1, 0, "", link("", 4), link(long("e"), 5), link(b.page(5).High, 7), link(long("i"), 6)))
		b.sound()
	}
}

// TestP18_1SettledByTwo: behind the first one changes may wait for the leaf; the
// second one leaves them.
func TestP18_1SettledByTwo(t *testing.T) {
	b := twoLeaves(t)
	b.does(insert, letters("ijk")...)
	first := b.work(insert, long("l"))
	b.behind(first, yes)
	second := b.work(mark, long("k"))
	b.behind(second, yes)
	b.steps(first, no, Progress{Over: true})
	b.waits(insert, "ee")
	b.flags(5, bitmap.Flags{Class: 2, Buffered: true})
	b.steps(second, no, Progress{Over: true})
	b.flags(5, bitmap.Flags{Class: 2, Buffered: true})
	b.lists(5, buffer.Op{Kind: insert, Key: "ee"})
	b.sound()
}

// big has a tree of three Levels, of so many keys, with what its works have left
// behind, where they were.
func big(t *testing.T, waits, leave bool) (*base, []string) {
	t.Helper()
	b := started(t, 300, 40, waits)
	var keys []string
	for i := range 90 {
		key := long(string([]byte{'a' + byte(i*37%90/10), '0' + byte(i*37%90%10)}))
		keys = append(keys, key)
		w := b.work(insert, key)
		if leave {
			b.behind(w, yes)
		} else {
			b.answers(b.goesOn(w, yes, isOver), api.OK)
		}
	}
	slices.Sort(keys)
	return b, keys
}

// TestP18_1ThreeLevels: a change waits at the page of Level 1 alone.
func TestP18_1ThreeLevels(t *testing.T) {
	b, keys := big(t, true, false)
	nodes := b.nodes()
	if len(nodes) != 3 {
		t.Fatal(len(nodes))
	}
	b.sound()
	for i, key := range keys {
		asked := 0
		w := b.work(mark, key)
		b.steps(w, func(n int) bool { asked = n; return false }, Progress{})
		if asked != 0 {
			t.Error("asked at the root", asked)
		}
		b.steps(w, func(n int) bool { asked = n; return false }, Progress{Applied: true, Over: true})
		if p := b.page(asked); p.Level != 0 || (p.High != "" && key >= p.High) || key < p.Entries[0].Key {
			t.Error(i, key, asked)
		}
	}
	b.pending(len(keys))
	b.sound()
	var want []page.Entry
	for _, key := range keys {
		want = append(want, signed(key))
	}
	b.entries(want...)
	for _, x := range nodes[0] { // nothing was changed there
		b.is(x.at, x.p)
		b.answers(b.x.Ready(b.m, x.at), api.OK)
		b.commits()
		b.sound()
	}
	b.pending(0)
	b.entries(want...)
}

// TestP18_1PostsOfAllLevels: what comes of a Settle is kept behind.
func TestP18_1PostsOfAllLevels(t *testing.T) {
	b, keys := big(t, true, true)
	b.sound()
	var want []page.Entry
	for _, key := range keys {
		want = append(want, plain(key))
	}
	b.entries(want...)
	shut := 0
	for _, is := range closed(b.nodes()) {
		if is {
			shut++
		}
	}
	if shut < 5 {
		t.Error("too few are left behind", shut)
	}
	for _, key := range keys { // those that come by settle all
		b.does(mark, key)
		b.sound()
	}
	for at, is := range closed(b.nodes()) {
		if is {
			t.Error(at, "is Closed")
		}
	}
}

// TestP18_1OneAtATime: each Step settles the first Post that is kept; what comes of
// that is kept behind all others.
func TestP18_1OneAtATime(t *testing.T) {
	b := started(t, 700, 60, true)
	numbers := rand.New(rand.NewPCG(18, 1))
	var keys []string
	told := 0
	for i, n := range numbers.Perm(1000) {
		keys = append(keys, long(fmt.Sprintf("%03d", n)))
		w := b.work(insert, keys[i])
		b.behind(w, yes)
		if i%3 > 0 {
			continue
		}
		w = b.work(mark, keys[numbers.IntN(len(keys))])
		b.behind(w, yes)
		for posts := w.posts; len(posts) > 0; {
			scratch := b.s.Begin()
			more, e := blink.Settle(scratch, rootAt, posts[0])
			b.answers(e, api.OK)
			scratch.Abort()
			if len(more) > 0 && len(posts) > 1 && more[len(more)-1] != posts[1] {
				told++
			}
			posts = append(slices.Clone(posts[1:]), more...)
			b.steps(w, nil, Progress{Over: len(posts) == 0})
			if !slices.Equal(w.posts, posts) {
				t.Fatal(w.posts, posts)
			}
		}
	}
	b.sound()
	if told < 5 {
		t.Error("tells too little", told)
	}
}

// TestP18_1NodeAboveSplit: at a page of Level 1 that doesn't cover the key nothing
// waits, but at its right neighbour.
func TestP18_1NodeAboveSplit(t *testing.T) {
	b := started(t, 500, 60, true)
	for i := 0; ; i++ {
		w := b.work(insert, long(fmt.Sprintf("%03d", i)))
		b.behind(w, yes)
		for len(w.posts) > 0 && w.posts[0].Level == 1 { // what is above them is left
			p, e := w.Step(b.m, yes)
			b.answers(e, api.OK)
			b.commits()
			if p.Over {
				break
			}
		}
		nodes := b.nodes()
		if len(nodes) < 3 || len(nodes[1]) == len(nodes[2][0].p.Entries) {
			continue
		}
		last := len(nodes[1]) - 1
		left, right := nodes[1][last-1], nodes[1][last]
		asked := 0
		held := func(n int) bool { asked = n; return false }
		w = b.work(mark, right.p.Entries[1].Key)
		b.steps(w, held, Progress{}) // the root
		b.steps(w, held, Progress{}) // the node that doesn't cover it
		if asked != 0 {
			t.Error("asked", asked, left.at, right.at)
		}
		b.steps(w, held, Progress{Applied: true}) // its right neighbour
		if asked != child(right.p.Entries[1]) {
			t.Error("asked", asked)
		}
		b.lists(asked, buffer.Op{Kind: mark, Key: right.p.Entries[1].Key})
		b.steps(w, held, Progress{Over: true})
		if nodes := b.nodes(); len(nodes[1]) != len(nodes[2][0].p.Entries) {
			t.Error("not settled")
		}
		b.sound()
		return
	}
}

// TestP18_1Aborted: behind an error, and behind Again, the work is as it was.
func TestP18_1Aborted(t *testing.T) {
	b := twoLeaves(t)
	b.does(insert, letters("ijk")...)
	w := b.work(insert, long("l"))
	off := func() { // no page can be read
		t.Helper()
		for n := range b.s.Pages() {
			b.s.Evict(n)
		}
		b.answers(b.s.Checkpoint(""), api.OK)
		b.m.Abort()
		b.d.Blow()
		b.m = b.s.Begin()
		b.stepsNot(w, yes, api.ErrPower)
		b.d.On()
		b.opens()
	}
	off()
	b.steps(w, yes, Progress{})
	off()
	b.steps(w, yes, Progress{Applied: true})
	off()
	b.steps(w, yes, Progress{Over: true})
	b.sound()
	b.row(4, 5, 6)
	full := b.work(insert, long("m"))
	other := b.s.Begin()
	for n := 60 - 30; n < 60; n++ { // all frames
		other.Page(n)
	}
	for range 3 {
		b.m.Abort()
		b.m = b.s.Begin()
		b.stepsNot(full, no, api.ErrPins)
	}
	other.Abort()
	b.aborts()
	b.steps(full, no, Progress{Applied: true, Over: true})
}

// TestP18_1NoPageForASplit: ErrFull, and the same Step again, once there is one.
func TestP18_1NoPageForASplit(t *testing.T) {
	b := started(t, 7, 30, true)
	b.does(insert, letters("abcdefghijk")...)
	b.row(4, 5)
	b.does(insert, letters("lmn")...)
	b.row(4, 5, 6)
	b.does(insert, letters("o")...)
	w := b.work(insert, long("p"))
	b.steps(w, yes, Progress{})
	for range 2 {
		b.stepsNot(w, yes, api.ErrFull)
		b.aborts()
		if w.Applied() {
			t.Error("Applied")
		}
	}
	b.sound()
	b.does(mark, long("k"))
	b.does(purge, long("k")) // now there is room in the leaf
	b.steps(w, yes, Progress{Applied: true, Over: true})
	b.sound()
}

// TestP18_1NoPageForTheBuffer: where it can't grow, the work goes on to its leaf.
func TestP18_1NoPageForTheBuffer(t *testing.T) {
	b := started(t, 6, 30, true)
	b.does(insert, letters("abcdefgh")...)
	keys := letters("abcdefgh")
	for i := range 30 {
		w := b.work(mark, keys[i%8])
		b.answers(b.goesOn(w, no, isOver), api.OK)
		b.sound()
	}
	var want []page.Entry
	for _, key := range keys {
		want = append(want, signed(key))
	}
	b.entries(want...)
}

// TestP18_1MovedRight: a leaf that is split while a work is on its way to it.
func TestP18_1MovedRight(t *testing.T) {
	b := twoLeaves(t)
	w := b.work(mark, long("h"))
	b.steps(w, yes, Progress{}) // on its way to the leaf 5
	b.does(insert, letters("ijkl")...)
	b.does(insert, long("ea"), long("eb"), long("ec"), long("ed"))
	if b.page(5).High > long("h") {
		t.Fatal(b.page(5))
	}
	b.steps(w, no, Progress{})              // the leaf 5 doesn't cover it any more
	b.steps(w, no, Progress{Applied: true}) // what was Missed is kept
	b.steps(w, no, Progress{Over: true})    // it was settled before
	b.sound()
	if e, there, x := blink.Get(b.m, rootAt, long("h")); !e.Marked || !there || x != api.OK {
		t.Error(e, there, x)
	}
	root := b.work(mark, "a")
	fresh := started(t, 60, 30, true) // the root is split meanwhile
	root = Start(fresh.x, buffer.Op{Kind: insert, Key: "a"}, "", 9)
	fresh.does(insert, letters("abcdefgh")...)
	fresh.steps(root, yes, Progress{})
	fresh.steps(root, yes, Progress{Applied: true, Over: true})
	fresh.sound()
}
