package buffer

import (
	"strings"
	"testing"

	"concordance/api"
	"concordance/bitmap"
	"concordance/mini"
	"concordance/page"
	"concordance/record"
	"concordance/space"
)

// calls are all of them, of the page 3 and the index 1; each tells whether it
// answers anything beside its error.
func calls() map[string]func(*mini.Mini) (bool, api.Errno) {
	return map[string]func(*mini.Mini) (bool, api.Errno){
		"Start": func(m *mini.Mini) (bool, api.Errno) {
			return false, Start(m)
		},
		"Add": func(m *mini.Mini) (bool, api.Errno) {
			return false, Add(m, 1, 3, Op{Mark, "a"}, 1000)
		},
		"List": func(m *mini.Mini) (bool, api.Errno) {
			l, e := List(m, 1, 3)
			return l != nil, e
		},
		"Merge": func(m *mini.Mini) (bool, api.Errno) {
			n, e := Merge(m, 1, 3)
			return n != 0, e
		},
		"Drop": func(m *mini.Mini) (bool, api.Errno) {
			n, e := Drop(m, 1, 3)
			return n != 0, e
		},
		"Pending": func(m *mini.Mini) (bool, api.Errno) {
			n, e := Pending(m)
			return n != 0, e
		},
		"First": func(m *mini.Mini) (bool, api.Errno) {
			index, n, any, e := First(m)
			return index != 0 || n != 0 || any, e
		},
	}
}

// buffered has a change that waits for the page 3.
func buffered(t *testing.T, frames int) *base {
	t.Helper()
	b := started(t, 12, 8, 1)
	b.adds(1, 3, Op{Insert, "a"})
	b.commits()
	b.reopens(frames)
	return b
}

func TestP17ErrorsOfTheChanges(t *testing.T) {
	for name, call := range calls() {
		t.Run(name, func(t *testing.T) {
			b := buffered(t, 3)
			refused := func(want api.Errno) {
				t.Helper()
				if more, e := call(b.m); more || e != want {
					t.Errorf("%t %d, not %d", more, e, want)
				}
			}
			if more, e := call(nil); more || e != api.ErrArg {
				t.Error("nil", more, e)
			}
			b.m.Abort()
			refused(api.ErrState)
			b.m = b.s.Begin()
			b.m.Commit(record.Record{Kind: record.Change})
			refused(api.ErrState)
			other := b.s.Begin()
			for n := 4; n < 7; n++ {
				other.Page(n)
			}
			b.m = b.s.Begin()
			refused(api.ErrPins)
			other.Abort()
			for n := range 4 {
				b.s.Evict(n)
			}
			b.d.Blow()
			refused(api.ErrPower)
			b.d.On()
			for _, bytes := range []string{strings.Repeat("torn", 128), page.Build(2, strings.Repeat("x", 496))} {
				b.laid(0, bytes)
				refused(api.ErrCorrupt)
			}
			b.untouched()
		})
	}
}

// TestP17TornPages of the flags, the buffer, the leaf: each call that asks for them
// answers ErrCorrupt.
func TestP17TornPages(t *testing.T) {
	for at, asking := range map[int]string{
		flagsAt:  "Add Merge Drop",
		bufferAt: "Add List Merge Drop First",
		3:        "Merge",
	} {
		for name, call := range calls() {
			for _, bytes := range []string{strings.Repeat("torn", 128), page.Build(2, strings.Repeat("x", 496)), strings.Repeat("\x00", 512)} {
				b := buffered(t, 8)
				b.s.Evict(at)
				b.laid(at, bytes)
				more, e := call(b.m)
				switch {
				case strings.Contains(asking, name) && (more || e != api.ErrCorrupt):
					t.Errorf("%d %s: %t %d", at, name, more, e)
				case !strings.Contains(asking, name) && e == api.ErrCorrupt:
					t.Errorf("%d %s: ErrCorrupt", at, name)
				}
			}
		}
	}
}

// TestP17NumbersThatAreNotSet: without a buffer there is no tree, without flags none
// can be told.
func TestP17NumbersThatAreNotSet(t *testing.T) {
	b := without(t, 12, 8)
	x := Op{Mark, "a"}
	none := func(want api.Errno) {
		t.Helper()
		b.addsNot(1, 3, x, 1000, want)
		l, e := List(b.m, 1, 3)
		if l != nil {
			t.Error(l)
		}
		b.answers(e, api.ErrCorrupt)
		b.firstNone(api.ErrCorrupt)
		b.pending(0)
	}
	none(api.ErrCorrupt)
	b.addsNot(1, 3, x, 0, api.ErrFull) // ahead of that
	b.addsNot(1, -1, x, 0, api.ErrArg)
	b.merges(1, 3, 0) // none is Buffered
	b.drops(1, 3, 0)
	b.flags(3, bitmap.Flags{Closed: true})
	b.addsNot(1, 3, x, 1000, api.ErrState)
	b.flags(3, bitmap.Flags{Buffered: true})
	b.commits()
	none(api.ErrCorrupt)
	b.mergesNot(1, 3, api.ErrCorrupt)
	d, e := Drop(b.m, 1, 3)
	b.number(d, e, 0, api.ErrCorrupt)
	b.untouched()
	b.answers(space.Set(b.m, "bits", 0), api.OK)
	b.commits()
	none(api.ErrCorrupt)
	b.mergesNot(1, 3, api.ErrCorrupt)
	b.untouched()
	for _, n := range []int{flagsAt, 5, 12, 800, 1 << 40} { // no tree's root
		b.answers(space.Set(b.m, "bits", flagsAt), api.OK)
		b.answers(space.Set(b.m, "buffer", n), api.OK)
		b.flags(3, bitmap.Flags{Buffered: true})
		b.commits()
		for name, call := range calls() {
			if name != "Start" && name != "Pending" {
				if more, e := call(b.m); more || e != api.ErrCorrupt && e != api.ErrArg {
					t.Error(n, name, more, e)
				}
			}
		}
		b.untouched()
	}
}

// TestP17BuffersLaidByHand are no buffer, but every call ends.
func TestP17BuffersLaidByHand(t *testing.T) {
	key := "\x00\x01\x00\x03\x00\x00\x00\x00\x00\x00"
	link := func(key string, n int) page.Entry {
		return page.Entry{Key: key, Value: string([]byte{0, byte(n)})}
	}
	for i, c := range []struct {
		root, other page.Page
		asking      string
	}{
		{root: leaf(page.Entry{Key: key}), asking: "Add List Merge Drop"}, // no kind
		{root: leaf(page.Entry{Key: key, Value: "\x00a"}), asking: "Add List Merge Drop"},
		{root: leaf(page.Entry{Key: key, Value: "\x05a"}), asking: "Add List Merge Drop"},
		{root: leaf(page.Entry{Key: key, Value: "\xffa"}), asking: "Add List Merge Drop"},
		{root: leaf(page.Entry{Key: key, Value: "\x01" + long("k", 65)}), asking: "Merge"}, // it goes into no leaf
		{root: leaf(page.Entry{Key: "\x00\x01\x00", Value: "\x02a"}), asking: "First"},
		{root: leaf(page.Entry{Key: "", Value: "\x02a"}), asking: "First"},
		{root: page.Page{Kind: 3, Level: 1, Entries: []page.Entry{link("", bufferAt)}}, asking: "Add List Merge Drop First"}, // round and round
		{root: page.Page{Kind: 3, Level: 1, Right: 4, High: "\x00", Entries: []page.Entry{link("", 4)}},
			other: page.Page{Kind: 3, Right: bufferAt, High: "\x00"}, asking: "Add List Merge Drop First"},
		{root: page.Page{Kind: 3, Right: 4, High: "\x00\x01\x00\x03\x01", Entries: []page.Entry{{Key: key, Value: "\x02a"}}},
			other: page.Page{Kind: 3, Right: bufferAt, High: "\x00\x01\x00\x03\x01"}, asking: "Add List Merge Drop"},
		{root: page.Page{Kind: 3, Right: 4, High: "\x00"},
			other: page.Page{Kind: 3, Right: bufferAt, High: "\x00"}, asking: "Add List Merge Drop First"},
		{root: page.Page{Kind: 3, Level: 2, Entries: []page.Entry{link("a", bufferAt)}}, asking: ""}, // no child for the key
	} {
		for name, call := range calls() {
			b := buffered(t, 8)
			b.lays(4, page.Page{Kind: 3})
			if c.other.Kind != 0 {
				b.lays(4, c.other)
			}
			b.lays(bufferAt, c.root)
			more, e := call(b.m)
			if strings.Contains(c.asking, name) && (more || e != api.ErrCorrupt) {
				t.Errorf("%d %s: %t %d", i, name, more, e)
			}
		}
	}
}

// TestP17ChangesMayGoOn behind errors by which nothing was changed.
func TestP17ChangesMayGoOn(t *testing.T) {
	b := started(t, 12, 8, 2)
	b.adds(1, 3, Op{Insert, "a"})
	b.flags(4, bitmap.Flags{Closed: true})
	b.answers(Start(b.m), api.ErrState)
	b.addsNot(1, -1, Op{Mark, "a"}, 1000, api.ErrArg)
	b.addsNot(1, 4, Op{Mark, "a"}, 1000, api.ErrState)
	b.addsNot(1, 3, Op{Mark, "a"}, 1, api.ErrFull)
	b.mergesNot(1, -1, api.ErrArg)
	b.adds(1, 3, Op{Mark, "a"})
	b.commits()
	b.lists(1, 3, Op{Insert, "a"}, Op{Mark, "a"})
	b.merges(1, 3, 2)
	b.is(3, leaf(signed("a")))
}
