package scan

import (
	"fmt"
	"slices"
	"strings"
	"testing"

	"concordance/api"
	"concordance/mini"
	"concordance/page"
	"concordance/space"
)

// three leaves below a root: a b, c d, e f.
func three(t *testing.T, frames int) *base {
	t.Helper()
	b := started(t, 12, frames)
	b.answers(space.Set(b.m, "high", 5), api.OK)
	b.commits()
	b.lays(2, leaf(3, "c", "a", "b"))
	b.lays(3, leaf(4, "e", "c", "d"))
	b.lays(4, leaf(0, "", "e", "f"))
	b.lays(root, above(1, 0, "", link("", 2), link("c", 3), link("e", 4)))
	return b
}

// trees of several kinds, by their names.
func trees(t *testing.T) map[string]*base {
	t.Helper()
	all := map[string]*base{"without entries": started(t, 8, 1), "three leaves": three(t, 2)}
	b := started(t, 8, 8)
	b.inserts(page.Entry{Key: "b", Value: "v"}, page.Entry{Key: "a", Marked: true}, page.Entry{Key: "d"})
	b.commits()
	b.reopens(1)
	all["one leaf"] = b
	for _, n := range []int{4, 20, 60} {
		b := started(t, 200, 20)
		for i := range n {
			b.inserts(sized(long(fmt.Sprintf("%02d", i*7%n)), 160))
			b.commits()
		}
		b.reopens(2)
		all[fmt.Sprint("Posts settled, ", n)] = b
		b = started(t, 200, 20)
		for i := range n {
			b.puts(sized(long(fmt.Sprintf("%02d", i*7%n)), 160))
			b.commits()
		}
		b.reopens(2)
		all[fmt.Sprint("Posts not settled, ", n)] = b
	}
	b = all["Posts settled, 20"]
	for _, i := range []int{0, 1, 2, 7, 8, 9, 10, 11, 18, 19} { // leaves without entries
		b.removes(long(fmt.Sprintf("%02d", i)))
		b.commits()
	}
	for _, e := range b.entries() {
		if e.Key[1]%2 == 0 {
			b.removes(e.Key)
			e.Marked = true
			b.inserts(e)
			b.commits()
		}
	}
	return all
}

// bounds that a cursor may have in a tree: at, just above and around its Keys and
// its leaves' Highs, and some that have nothing to do with them.
func (b *base) bounds() []string {
	b.t.Helper()
	l := []string{"", "\x00", "\xff", strings.Repeat("\xff", 100), long("05") + "longer than a key may be"}
	for _, x := range b.leaves() {
		keys := keysOf(x.p.Entries)
		for _, key := range append(keys[:min(1, len(keys))], x.p.High) {
			l = append(l, key, key+"\x00")
		}
	}
	return l
}

// TestP15_1AnyBounds: a cursor tells just what is between its bounds, in order;
// ready is asked of the leaf that covers from, and of those on its right, up to
// the first one whose High is no less than to.
func TestP15_1AnyBounds(t *testing.T) {
	for name, b := range trees(t) {
		t.Run(name, func(t *testing.T) {
			b.t = t
			entries, leaves, bounds := b.entries(), b.leaves(), b.bounds()
			if len(bounds) > 30 { // some of them will do
				bounds = slices.Concat(bounds[:14], bounds[len(bounds)-14:])
			}
			for _, from := range bounds {
				for _, to := range bounds {
					l, asked := b.whole(Open(root, from, to), 300)
					if want := between(entries, from, to); !slices.Equal(l, want) {
						t.Fatalf("%q %q: %v, not %v", from, to, l, want)
					}
					if want := covered(leaves, from, to); !slices.Equal(asked, want) {
						t.Fatalf("%q %q: ready of %v, not %v", from, to, asked, want)
					}
				}
			}
			b.untouched()
		})
	}
}

// covered leaves: from the one that covers from up to the one behind which no
// more can come.
func covered(leaves []place, from, to string) []int {
	var l []int
	for _, x := range leaves {
		if x.p.High != "" && from >= x.p.High {
			continue
		}
		l = append(l, x.at)
		if to != "" && x.p.High >= to {
			break
		}
	}
	return l
}

func TestP15_1StepByStep(t *testing.T) {
	type step struct {
		over bool
		keys []string
	}
	none, over := step{}, step{over: true}
	tell := func(keys ...string) step { return step{false, keys} }
	last := func(keys ...string) step { return step{true, keys} }
	for _, x := range []struct {
		from, to string
		steps    []step
	}{
		{"", "", []step{none, tell("a", "b"), tell("c", "d"), last("e", "f"), over, over}},
		{"a", "", []step{none, tell("a", "b"), tell("c", "d"), last("e", "f"), over}},
		{"a\x00", "", []step{none, tell("b"), tell("c", "d"), last("e", "f"), over}},
		{"b\x00", "", []step{none, none, tell("c", "d"), last("e", "f"), over}},
		{"c", "", []step{none, tell("c", "d"), last("e", "f"), over}},
		{"d", "", []step{none, tell("d"), last("e", "f"), over}},
		{"e", "", []step{none, last("e", "f"), over}},
		{"f", "", []step{none, last("f"), over}},
		{"f\x00", "", []step{none, over, over}},
		{"", "a", []step{none, over}},
		{"", "a\x00", []step{none, last("a"), over}},
		{"", "b", []step{none, last("a"), over}},
		{"", "c", []step{none, last("a", "b"), over}}, // the leaf's High
		{"", "c\x00", []step{none, tell("a", "b"), last("c"), over}},
		{"", "d", []step{none, tell("a", "b"), last("c"), over}},
		{"", "e", []step{none, tell("a", "b"), last("c", "d"), over}},
		{"", "z", []step{none, tell("a", "b"), tell("c", "d"), last("e", "f"), over}},
		{"b", "e", []step{none, tell("b"), last("c", "d"), over}},
		{"c", "c", []step{none, over}},
		{"d", "b", []step{none, over}},
		{"e", "a", []step{none, over}},
		{"z", "a", []step{none, over}},
		{"a", "b", []step{none, last("a"), over}},
	} {
		b := three(t, 1)
		c := Open(root, x.from, x.to)
		for _, s := range x.steps {
			b.tells(c, s.over, s.keys...)
			b.untouched()
		}
		if t.Failed() {
			t.Fatalf("%q %q", x.from, x.to)
		}
	}
}

// TestP15_1OnePageEachStep: no other page is read by a Step.
func TestP15_1OnePageEachStep(t *testing.T) {
	for name, b := range trees(t) {
		b.t = t
		for _, from := range b.bounds() {
			c := Open(root, from, "")
			for over, steps := false, 0; !over; steps++ {
				for n := range b.s.Pages() {
					b.s.Evict(n)
				}
				var e api.Errno
				_, over, e = c.Step(b.m, nil)
				b.answers(e, api.OK)
				var held []int
				for n := range b.s.Pages() {
					if b.s.Has(n) {
						held = append(held, n)
					}
				}
				if len(held) != 1 || steps == 0 && held[0] != root || steps > 300 {
					t.Fatal(name, from, steps, held)
				}
			}
			b.tells(c, true)
		}
	}
}

func TestP15_1BehindTrue(t *testing.T) {
	b := three(t, 4)
	c := Open(root, "", "c")
	b.whole(c, 2)
	b.inserts(page.Entry{Key: "aa"}) // none of it is told any more
	refuse := func(*mini.Mini, int) api.Errno { return api.ErrNone }
	for _, m := range []*mini.Mini{b.m, nil, ended(b)} { // no page is visited
		for range 2 {
			if l, over, e := c.Step(m, refuse); l != nil || !over || e != api.OK {
				t.Error(l, over, e)
			}
		}
	}
}

// ended changes.
func ended(b *base) *mini.Mini {
	m := b.s.Begin()
	m.Abort()
	return m
}

func TestP15_1NoCursor(t *testing.T) {
	b := three(t, 4)
	var c *Cursor
	for _, m := range []*mini.Mini{b.m, nil, ended(b)} {
		if l, over, e := c.Step(m, nil); l != nil || over || e != api.ErrArg {
			t.Error(l, over, e)
		}
	}
	for _, n := range []int{-1 << 63, -1, 0, 1, 12, 800, 1<<63 - 1} {
		if Open(n, "b", "a") == nil {
			t.Error(n)
		}
	}
}

// TestP15_1Ready is asked of the changes and of the page, each leaf once, and
// never of a node above.
func TestP15_1Ready(t *testing.T) {
	b := three(t, 2)
	c := Open(root, "b", "")
	var asked []int
	ready := func(m *mini.Mini, n int) api.Errno {
		if m != b.m {
			t.Error("other changes")
		}
		asked = append(asked, n)
		return api.OK
	}
	for _, want := range [][]int{nil, {2}, {2, 3}, {2, 3, 4}, {2, 3, 4}} {
		if _, _, e := c.Step(b.m, ready); e != api.OK || !slices.Equal(asked, want) {
			t.Error(asked, want, e)
		}
	}
	b.untouched()
}

// TestP15_1ReadyAhead: what ready changes is told.
func TestP15_1ReadyAhead(t *testing.T) {
	b := three(t, 12)
	ready := func(m *mini.Mini, n int) api.Errno {
		for _, key := range [][]string{2: {"aa", "bb"}, 3: {"cc"}, 4: {"e\x00", "z"}}[n] {
			b.inserts(page.Entry{Key: key})
		}
		if n == 3 {
			b.removes("d")
		}
		return api.OK
	}
	c := Open(root, "ab", "y")
	var l []string
	for over := false; !over; {
		more, o, e := c.Step(b.m, ready)
		b.answers(e, api.OK)
		l, over = append(l, keysOf(more)...), o
	}
	if want := []string{"b", "bb", "c", "cc", "e", "e\x00", "f"}; !slices.Equal(l, want) {
		t.Errorf("%q, not %q", l, want)
	}
	for n := range 12 { // what ready has Set stays asked
		if b.asked(n) != (n >= 2 && n <= 4) {
			t.Error(n)
		}
	}
}

// TestP15_1ReadyRefuses: its error, and the cursor stays where it was.
func TestP15_1ReadyRefuses(t *testing.T) {
	b := three(t, 2)
	c := Open(root, "b", "e")
	b.tells(c, false)
	for _, want := range []api.Errno{api.ErrArg, api.ErrFull, api.ErrNone, api.ErrCorrupt, 77, -1} {
		at := 0
		b.tellsNot(c, func(_ *mini.Mini, n int) api.Errno {
			at = n
			return want
		}, want)
		if at != 2 {
			t.Error(at)
		}
		b.untouched()
	}
	b.tells(c, false, "b")
	at := 0
	b.tellsNot(c, func(_ *mini.Mini, n int) api.Errno { at = n; return api.ErrLog }, api.ErrLog)
	if at != 3 {
		t.Error(at)
	}
	b.inserts(page.Entry{Key: "cc"}) // it isn't told yet, so it will be
	b.tells(c, true, "c", "cc", "d")
	// Of the root, where that is a leaf.
	b = started(t, 4, 2)
	b.inserts(page.Entry{Key: "a"})
	c = Open(root, "", "")
	b.tellsNot(c, func(*mini.Mini, int) api.Errno { return api.ErrPins }, api.ErrPins)
	b.tells(c, true, "a")
}

// TestP15_1ReadySplits the leaf that it is asked of.
func TestP15_1ReadySplits(t *testing.T) {
	big := func(key string) page.Entry { return sized(long(key), 160) }
	for _, atRoot := range []bool{true, false} {
		for _, from := range []string{"", long("b"), long("c"), long("e")} {
			b := started(t, 20, 20)
			b.inserts(big("b"), big("c"), big("d"))
			if !atRoot {
				b.inserts(big("x"), big("y"), big("z"))
			}
			c := Open(root, from, "")
			splits := 0
			ready := func(*mini.Mini, int) api.Errno {
				if splits++; splits == 1 {
					b.puts(big("a"))
					b.puts(big("e"))
				}
				return api.OK
			}
			var l []page.Entry
			over := false
			for steps := 0; !over && steps < 20; steps++ {
				more, o, e := c.Step(b.m, ready)
				b.answers(e, api.OK)
				l, over = append(l, more...), o
			}
			if want := between(b.entries(), from, ""); !over || !slices.Equal(l, want) || len(b.leaves()) < 2 {
				t.Errorf("%t %q: %q, not %q", atRoot, from, keysOf(l), keysOf(want))
			}
		}
	}
}

func TestP15_1ReadyEndsTheChanges(t *testing.T) {
	b := three(t, 4)
	c := Open(root, "", "")
	b.tells(c, false)
	b.tellsNot(c, func(m *mini.Mini, _ int) api.Errno { m.Abort(); return api.OK }, api.ErrState)
	b.aborts()
	b.tells(c, false, "a", "b")
}

// TestP15_1ChangesBetweenSteps: what a Step tells is what the leaf has then.
func TestP15_1ChangesBetweenSteps(t *testing.T) {
	b := three(t, 12)
	c := Open(root, "b", "f")
	b.tells(c, false)
	b.removes("b") // at the cursor
	b.inserts(page.Entry{Key: "aa"}, page.Entry{Key: "b\x00", Marked: true}, page.Entry{Key: "bb"})
	b.commits()
	b.tells(c, false, "b\x00", "bb")
	b.inserts(page.Entry{Key: "b"}, page.Entry{Key: "bbb"}, page.Entry{Key: "c\x00"}) // behind it, and ahead of it
	b.removes("bb", "c", "e")
	b.commits()
	b.tells(c, false, "c\x00", "d")
	b.removes("c\x00", "d")
	b.inserts(page.Entry{Key: "c"}, page.Entry{Key: "d\xff"}, page.Entry{Key: "e", Value: "again"})
	b.commits()
	b.inserts(page.Entry{Key: "e\x00"})
	b.tells(c, true, "e", "e\x00")
	b.tells(c, true)

	c = Open(root, "c", "e") // all of a leaf is removed, ahead of it and at it
	b.tells(c, false)
	b.removes("c", "d\xff")
	b.tells(c, true)
	c = Open(root, "", "")
	b.tells(c, false)
	b.tells(c, false, "a", "aa", "b", "b\x00", "bbb")
	b.tells(c, false)
	b.inserts(page.Entry{Key: "d"}) // too late
	b.tells(c, true, "e", "e\x00", "f")
}

// TestP15_1MarkedAndValues are told as they are.
func TestP15_1MarkedAndValues(t *testing.T) {
	b := started(t, 12, 12)
	l := []page.Entry{{Key: "", Value: "empty key"}, {Key: "a", Marked: true}, {Key: "b", Value: strings.Repeat("v", 100), Marked: true}, {Key: "c", Value: "\x00"}}
	b.inserts(l...)
	if got, _ := b.whole(Open(root, "", ""), 1); !slices.Equal(got, l) {
		t.Error(got)
	}
	got, _ := b.whole(Open(root, "", ""), 1)
	again, _ := b.whole(Open(root, "", ""), 1)
	got[1].Key = "mine" // an answer is new memory
	_ = append(got[:1], page.Entry{})
	if !slices.Equal(again, l) || !slices.Equal(b.entries(), l) {
		t.Error(again, b.entries())
	}
}

// TestP15_1OtherChanges: a cursor goes on in other changes, and in such as are
// under way beside each other.
func TestP15_1OtherChanges(t *testing.T) {
	b := three(t, 12)
	c := Open(root, "", "")
	b.tells(c, false)
	b.inserts(page.Entry{Key: "aa"})
	b.tells(c, false, "a", "aa", "b")
	b.aborts()
	b.inserts(page.Entry{Key: "cc"})
	b.commits()
	other := b.s.Begin()
	l, over, e := c.Step(other, nil)
	if !slices.Equal(keysOf(l), []string{"c", "cc", "d"}) || over || e != api.OK {
		t.Error(l, over, e)
	}
	other.Abort()
	b.tells(c, true, "e", "f")
}
