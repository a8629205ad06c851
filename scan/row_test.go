package scan

import (
	"fmt"
	"slices"
	"testing"

	"concordance/api"
	"concordance/blink"
	"concordance/mini"
	"concordance/page"
)

// TestP15_2Rows: all leaves in their row, all entries in theirs, all pages level
// by level, also of trees with more leaves than frames.
func TestP15_2Rows(t *testing.T) {
	for name, b := range trees(t) {
		t.Run(name, func(t *testing.T) {
			b.t = t
			for _, frames := range []int{1, 40} {
				b.reopens(frames)
				nodes, entries := b.nodes(), b.entries()
				var leaves []place
				e := Each(b.m, root, func(n int, p page.Page) bool {
					leaves = append(leaves, place{at: n, p: p})
					return true
				})
				b.answers(e, api.OK)
				b.row(leaves, nodes[0])
				leaves = nil
				for n, p := range Leaves(b.m, root) {
					leaves = append(leaves, place{at: n, p: p})
				}
				b.row(leaves, nodes[0])
				var l []page.Entry
				for e := range All(b.m, root) {
					l = append(l, e)
				}
				if !slices.Equal(l, entries) {
					t.Errorf("%v, not %v", l, entries)
				}
				var want []int
				for _, row := range nodes {
					for _, x := range row {
						want = append(want, x.at)
					}
				}
				pages, e := Pages(b.m, root)
				if !slices.Equal(pages, want) || e != api.OK {
					t.Errorf("%v %d, not %v", pages, e, want)
				}
				b.untouched()
			}
		})
	}
}

// row tells where leaves aren't those of the row, with all that their nodes have.
func (b *base) row(l, want []place) {
	b.t.Helper()
	if !slices.EqualFunc(l, want, func(x, y place) bool { return x.at == y.at && same(x.p, y.p) }) {
		b.t.Errorf("%v, not %v", l, want)
	}
}

// TestP15_2TreesAsTheyShouldBe: some of those that are gone over have three Levels
// and more, and some have Posts that aren't settled.
func TestP15_2TreesAsTheyShouldBe(t *testing.T) {
	all := trees(t)
	for name, levels := range map[string]int{"without entries": 1, "one leaf": 1, "three leaves": 2, "Posts settled, 4": 2, "Posts settled, 60": 4, "Posts not settled, 60": 2} {
		if n := len(all[name].nodes()); n != levels {
			t.Error(name, n)
		}
	}
	_, missed, e := blink.Seek(all["Posts not settled, 60"].m, root, long("59"), 0)
	if len(missed) < 5 || e != api.OK {
		t.Error(missed, e)
	}
	l := all["Posts settled, 20"].leaves()
	bare := func(x place) bool { return len(x.p.Entries) == 0 }
	full := func(x place) bool { return !bare(x) }
	first := slices.IndexFunc(l, full)
	gap := first + slices.IndexFunc(l[max(0, first):], bare)
	if first < 1 || gap <= first || !slices.ContainsFunc(l[gap:], full) {
		t.Error(first, gap)
	}
}

// TestP15_2EachTillFalse: behind a false no leaf is told.
func TestP15_2EachTillFalse(t *testing.T) {
	for name, b := range trees(t) {
		b.t = t
		leaves := b.leaves()
		for most := 1; most <= len(leaves); most++ {
			var told []place
			e := Each(b.m, root, func(n int, p page.Page) bool {
				told = append(told, place{at: n, p: p})
				return len(told) < most
			})
			b.answers(e, api.OK)
			b.row(told, leaves[:most])
		}
		b.untouched()
		if t.Failed() {
			t.Fatal(name)
		}
	}
}

// TestP15_2FalseAheadOfAnError: what isn't gone over any more tells no error.
func TestP15_2FalseAheadOfAnError(t *testing.T) {
	b := three(t, 2)
	b.lays(3, leaf(0, "", "z", "a"))
	b.answers(Each(b.m, root, func(int, page.Page) bool { return false }), api.OK)
	b.answers(Each(b.m, root, func(int, page.Page) bool { return true }), api.ErrCorrupt)
	b.untouched()
}

// TestP15_2LeftEarly: loops that end at any place, or go on with another one.
func TestP15_2LeftEarly(t *testing.T) {
	for name, b := range trees(t) {
		b.t = t
		entries, leaves := b.entries(), b.leaves()
		for most := range min(len(entries), 10) {
			var l []page.Entry
			for e := range All(b.m, root) {
				if l = append(l, e); len(l) > most {
					break
				}
			}
			if !slices.Equal(l, entries[:most+1]) {
				t.Error(name, most, l)
			}
			b.untouched()
		}
		for most := range min(len(leaves), 10) {
			var told []place
			for n, p := range Leaves(b.m, root) {
				if told = append(told, place{at: n, p: p}); len(told) > most {
					break
				}
			}
			b.row(told, leaves[:most+1])
			b.untouched()
		}
	}
	b := three(t, 12)
	var l []string
outer:
	for e := range All(b.m, root) {
		for f := range All(b.m, root) {
			if l = append(l, e.Key+f.Key); f.Key == "c" {
				continue outer
			}
			if e.Key == "b" {
				break outer
			}
		}
	}
	if want := []string{"aa", "ab", "ac", "ba"}; !slices.Equal(l, want) {
		t.Error(l)
	}
	b.untouched()
}

// TestP15_2NothingAheadOfTheLoop: All and Leaves ask for no page ahead of it, and
// may be ranged over again.
func TestP15_2NothingAheadOfTheLoop(t *testing.T) {
	b := three(t, 12)
	all, leaves := All(b.m, root), Leaves(b.m, root)
	b.inserts(page.Entry{Key: "g"})
	for want := 7; want < 9; want++ {
		n, entries := 0, 0
		for range all {
			entries++
		}
		for range leaves {
			n++
		}
		if entries != want || n != 3 {
			t.Error(entries, n)
		}
		b.inserts(page.Entry{Key: fmt.Sprint("h", want)})
	}
}

// TestP15_2NoFunction: nothing is told to none, and nothing panics.
func TestP15_2NoFunction(t *testing.T) {
	b := three(t, 12)
	b.answers(Each(b.m, root, nil), api.ErrArg)
	b.answers(Each(nil, -1, nil), api.ErrArg)
	for _, n := range []int{root, 0, -1} {
		All(b.m, n)(nil)
		Leaves(b.m, n)(nil)
		All(nil, n)(nil)
		Leaves(nil, n)(nil)
	}
	b.untouched()
}

// TestP15_2EachLeafIsLeft, also where it was asked ahead of the call; but not where
// it was Set, and no node above that was asked.
func TestP15_2EachLeafIsLeft(t *testing.T) {
	for name, over := range map[string]func(*base){
		"Each":  func(b *base) { Each(b.m, root, func(int, page.Page) bool { return true }) },
		"Pages": func(b *base) { Pages(b.m, root) },
		"Step":  func(b *base) { b.whole(Open(root, "", ""), 9) },
		"All": func(b *base) {
			for range All(b.m, root) {
			}
		},
		"Leaves": func(b *base) {
			for range Leaves(b.m, root) {
			}
		},
	} {
		b := three(t, 12)
		for _, n := range []int{root, 2, 3, 5} {
			b.m.Page(n)
		}
		p := b.page(3)
		p.Entries[0].Marked = true
		b.answers(b.m.Set(3, p), api.OK)
		over(b)
		for n, want := range []bool{false, true, false, true, false, true, false} {
			if b.asked(n) != want {
				t.Error(name, n)
			}
			if pinned := b.s.Evict(n) == api.ErrPins; pinned != want {
				t.Error(name, n, pinned)
			}
		}
		if !same(b.page(3), p) {
			t.Error(name, b.page(3))
		}
		b.aborts()
		over(b)
		b.untouched()
	}
}

// TestP15_2LeftAsFarAsItWent: behind a false and behind a Step the leaves that were
// gone over are left, and no others.
func TestP15_2LeftAsFarAsItWent(t *testing.T) {
	ahead := func() *base {
		b := three(t, 12)
		for _, n := range []int{2, 3, 4} {
			b.m.Page(n)
		}
		return b
	}
	is := func(b *base, want ...bool) {
		t.Helper()
		for i, w := range want {
			if b.asked(2+i) != w {
				t.Error(2 + i)
			}
		}
	}
	b := ahead()
	Each(b.m, root, func(n int, _ page.Page) bool { return n < 3 })
	is(b, false, false, true)
	b = ahead()
	for range All(b.m, root) {
		break
	}
	is(b, false, true, true)
	b = ahead()
	c := Open(root, "", "")
	b.tells(c, false)
	is(b, true, true, true)
	b.tellsNot(c, func(*mini.Mini, int) api.Errno { return api.ErrFull }, api.ErrFull)
	is(b, true, true, true)
	b.tells(c, false, "a", "b")
	is(b, false, true, true)
	b.tells(c, false, "c", "d")
	is(b, false, false, true)
}

// TestP15_2InTheMidst: while it is told, a leaf is asked in the changes, so that it
// can be Set; where it is asked once more it is left nevertheless.
func TestP15_2InTheMidst(t *testing.T) {
	b := three(t, 2)
	e := Each(b.m, root, func(n int, p page.Page) bool {
		if !b.asked(n) || b.asked(root) {
			t.Error(n)
		}
		if q, e := b.m.Page(n); !same(p, q) || e != api.OK {
			t.Error(q, e)
		}
		if n == 3 {
			p.Entries = append(p.Entries, page.Entry{Key: "dd"})
			b.answers(b.m.Set(n, p), api.OK)
		}
		return true
	})
	b.answers(e, api.OK)
	for n := range 6 {
		if b.asked(n) != (n == 3) {
			t.Error(n)
		}
	}
	b.commits()
	if l := slices.Collect(All(b.m, root)); !slices.Equal(keysOf(l), []string{"a", "b", "c", "d", "dd", "e", "f"}) {
		t.Error(l)
	}
	c := Open(root, "", "")
	b.tells(c, false)
	l, _, e := c.Step(b.m, func(m *mini.Mini, n int) api.Errno { // asks, and sets nothing
		_, e := m.Page(n)
		return e
	})
	if len(l) != 2 || e != api.OK {
		t.Error(l, e)
	}
	b.untouched()
}

// TestP15_2Changed: what was Set of leaves in the changes is told, and what is
// told can be changed within the loop.
func TestP15_2Changed(t *testing.T) {
	b := started(t, 60, 50)
	for i := 10; i < 30; i++ {
		b.inserts(big(fmt.Sprint(i)))
	}
	b.commits()
	n := 0
	for e := range All(b.m, root) {
		if n++; n%2 == 0 {
			b.removes(e.Key)
		}
	}
	l := slices.Collect(All(b.m, root))
	if n != 20 || len(l) != 10 || l[9].Key != long("28") {
		t.Error(n, keysOf(l))
	}
	b.aborts()
	if l := slices.Collect(All(b.m, root)); len(l) != 20 {
		t.Error(keysOf(l))
	}
	// Leaves that split while they are told: each entry that was there is told once.
	was, told := b.entries(), []page.Entry(nil)
	for e := range All(b.m, root) {
		if slices.Contains(was, e) {
			told = append(told, e)
		}
		if len(e.Key) == 64 && e.Key[2] == '_' {
			b.puts(big(e.Key[:2] + "~"))
		}
	}
	if !slices.Equal(told, was) || len(b.entries()) != 40 {
		t.Error(keysOf(told))
	}
}

// TestP15_2EndsOfTheChanges in the midst are its error.
func TestP15_2EndsOfTheChanges(t *testing.T) {
	b := three(t, 4)
	told := 0
	e := Each(b.m, root, func(int, page.Page) bool {
		told++
		b.m.Abort()
		return true
	})
	if e != api.ErrState || told != 1 {
		t.Error(e, told)
	}
	b.m = b.s.Begin()
	for range All(b.m, root) {
		told++
		b.m.Abort()
	}
	if told != 3 { // all of the leaf that was asked
		t.Error(told)
	}
	b.m = b.s.Begin()
	b.untouched()
}
