package blink

import (
	"math"
	"strings"
	"testing"

	"concordance/api"
	"concordance/mini"
	"concordance/page"
	"concordance/space"
)

// calls are all of them; each tells whether it answers anything beside its error.
func calls() map[string]func(*mini.Mini) (bool, api.Errno) {
	return map[string]func(*mini.Mini) (bool, api.Errno){
		"Create": func(m *mini.Mini) (bool, api.Errno) {
			n, e := Create(m)
			return n != 0, e
		},
		"Visit": func(m *mini.Mini) (bool, api.Errno) {
			s, e := Visit(m, root, "a", 0)
			return s.Next != 0 || s.Here || s.Missed != nil, e
		},
		"Seek": func(m *mini.Mini) (bool, api.Errno) {
			n, l, e := Seek(m, root, "a", 0)
			return n != 0 || l != nil, e
		},
		"Put": func(m *mini.Mini) (bool, api.Errno) {
			l, e := Put(m, root, root, page.Entry{Key: "a"})
			return l != nil, e
		},
		"Put of what may not be": func(m *mini.Mini) (bool, api.Errno) {
			l, e := Put(m, 5, root, page.Entry{Key: strings.Repeat("k", 65)})
			return l != nil, e
		},
		"Settle": func(m *mini.Mini) (bool, api.Errno) {
			l, e := Settle(m, root, Post{Level: 0, Right: 2, Key: "a"})
			return l != nil, e
		},
		"Settle no page": func(m *mini.Mini) (bool, api.Errno) {
			l, e := Settle(m, root, Post{})
			return l != nil, e
		},
		"Get": func(m *mini.Mini) (bool, api.Errno) {
			e, there, x := Get(m, root, "a")
			return there || e != page.Entry{}, x
		},
		"Insert": func(m *mini.Mini) (bool, api.Errno) {
			return false, Insert(m, root, page.Entry{Key: "a"})
		},
		"Remove": func(m *mini.Mini) (bool, api.Errno) {
			return false, Remove(m, root, "a")
		},
	}
}

// TestP14ErrorsOfTheChanges come as they come, ahead of all else.
func TestP14ErrorsOfTheChanges(t *testing.T) {
	for name, call := range calls() {
		t.Run(name, func(t *testing.T) {
			b := started(t, 6, 2)
			refused := func(want api.Errno) {
				t.Helper()
				if more, e := call(b.m); more || e != want {
					t.Errorf("%t %d, not %d", more, e, want)
				}
			}
			if more, e := call(nil); more || e != api.ErrArg {
				t.Error("nil", more, e)
			}
			b.m.Abort()
			refused(api.ErrState)
			other := b.s.Begin()
			other.Page(4)
			other.Page(5)
			b.m = b.s.Begin()
			refused(api.ErrPins)
			other.Abort()
			b.s.Evict(0)
			b.s.Evict(1)
			b.d.Blow()
			refused(api.ErrPower)
			b.d.On()
			for _, bytes := range []string{strings.Repeat("torn", 128), page.Build(2, strings.Repeat("x", 496))} {
				b.laid(0, bytes)
				b.laid(1, bytes)
				refused(api.ErrCorrupt)
			}
			b.untouched()
		})
	}
}

// TestP14RootsThatMayNotBe: each int may be handed in.
func TestP14RootsThatMayNotBe(t *testing.T) {
	b := started(t, 6, 3)
	for _, n := range []int{math.MinInt, -1, 6, 7, 799, 800, 65535, 65536, math.MaxInt} {
		for _, key := range []string{"", "a", strings.Repeat("k", 1000)} {
			for _, level := range []int{math.MinInt, -1, 0, 1, math.MaxInt} {
				b.refuses(n, key, level, api.ErrArg)
				b.seeksNot(n, key, level, api.ErrArg)
				_, e := Settle(b.m, n, Post{level, 1, 2, key})
				b.answers(e, api.ErrArg)
			}
			_, there, e := Get(b.m, n, key)
			if there {
				t.Error(n, key)
			}
			b.answers(e, api.ErrArg)
			b.answers(Insert(b.m, n, page.Entry{Key: key}), api.ErrArg)
			b.answers(Remove(b.m, n, key), api.ErrArg)
			b.putsNot(n, page.Entry{Key: key}, api.ErrArg)
		}
		b.untouched()
		b.puts(root, page.Entry{Key: "a"}) // whatever root is: it isn't asked for more than whether it is that page
		if l, e := Put(b.m, n, root, page.Entry{Key: "b"}); l != nil || e != api.OK {
			t.Error(n, l, e)
		}
		b.aborts()
	}
}

func TestP14_1Create(t *testing.T) {
	b := empty(t, 4, 3)
	if n, e := Create(b.m); n != 0 || e != api.ErrCorrupt { // there is no page 0 yet
		t.Error(n, e)
	}
	b.untouched()
	b.answers(space.Start(b.m), api.OK)
	for want := 1; want <= 3; want++ {
		n, e := Create(b.m)
		if n != want || e != api.OK {
			t.Error(n, e)
		}
		b.commits()
		b.is(n, page.Page{Kind: 3})
		b.visits(n, "a", 0, Step{Next: n, Here: true})
		if _, there, e := Get(b.m, n, ""); there || e != api.OK {
			t.Error(there, e)
		}
	}
	if n, e := Create(b.m); n != 0 || e != api.ErrFull {
		t.Error(n, e)
	}
	b.untouched()
	// Each is a tree of its own.
	for n := 1; n <= 3; n++ {
		b.answers(Insert(b.m, n, page.Entry{Key: "a", Value: string([]byte{byte(n)})}), api.OK)
		b.commits()
	}
	for n := 1; n <= 3; n++ {
		if e, there, x := Get(b.m, n, "a"); e.Value != string([]byte{byte(n)}) || !there || x != api.OK {
			t.Error(n, e, there, x)
		}
	}
	b.answers(space.Give(b.m, 2), api.OK)
	if n, e := Create(b.m); n != 2 || e != api.OK {
		t.Error(n, e)
	}
	b.is(2, page.Page{Kind: 3})
}

func TestP14_1VisitOfNoNode(t *testing.T) {
	b := started(t, 6, 3)
	for _, p := range []page.Page{
		{Kind: 1}, {Kind: 2}, {Kind: 4}, {Kind: 5}, {Kind: 255},
		{Kind: 2, Right: 3, High: "b"},
		leaf(0, "", "b", "a"),
		leaf(0, "", "a", "a"),
		leaf(3, "b", "a", "b"),
		above(1, 0, ""),
		above(1, 3, "b"),
		above(1, 0, "", page.Entry{Key: "", Value: "\x00\x00"}),
		above(1, 0, "", page.Entry{Key: "", Value: "\x01"}),
		above(1, 0, "", page.Entry{Key: ""}),
		above(1, 0, "", page.Entry{Key: "", Value: "\x00\x00\x01"}),
		above(1, 0, "", link("", 2), page.Entry{Key: "a", Value: "\x00\x02", Marked: true}),
		above(2, 3, "b", link("a", 2), link("b", 2)),
	} {
		b.lays(1, p)
		for _, level := range []int{math.MinInt, -1, 0, 1, 2, 3, math.MaxInt} { // ahead of ErrState
			for _, key := range []string{"", "a", "b", "z"} { // and of what it covers
				b.refuses(1, key, level, api.ErrCorrupt)
				b.seeksNot(1, key, level, api.ErrCorrupt)
			}
			b.settlesNot(Post{level, 1, 2, "a"}, api.ErrCorrupt)
		}
		b.getsNone("a", api.ErrCorrupt)
		b.answers(Insert(b.m, root, page.Entry{Key: "a"}), api.ErrCorrupt)
		b.answers(Insert(b.m, root, page.Entry{Key: strings.Repeat("k", 65)}), api.ErrCorrupt)
		b.answers(Remove(b.m, root, "a"), api.ErrCorrupt)
		b.untouched()
	}
	for _, n := range []int{0, 2, 5} { // page 0, and such as were never taken
		b.refuses(n, "a", 0, api.ErrCorrupt)
		b.seeksNot(n, "a", 0, api.ErrCorrupt)
	}
	b.untouched()
}

func TestP14_1Visit(t *testing.T) {
	b := started(t, 8, 2)
	b.lays(3, leaf(4, "m", "c", "k"))
	b.lays(4, above(3, 65535, "m", link("b", 5), link("d", 6), link("k", 7)))
	b.lays(5, leaf(0, ""))
	b.lays(6, leaf(0, "m", "")) // a last one with a High
	b.lays(7, above(255, 3, "m", link("", 700)))
	for _, key := range []string{"", "b", "c", "k", "l\xff", "l" + strings.Repeat("\xff", 100)} {
		b.visits(3, key, 0, Step{Next: 3, Here: true})
		b.visits(4, key, 3, Step{Next: 4, Here: true})
		b.visits(7, key, 255, Step{Next: 7, Here: true})
		b.visits(7, key, 254, Step{Next: 700})
	}
	for _, key := range []string{"m", "m\x00", "n", "\xff"} { // High is the key, is just below it
		for _, level := range []int{math.MinInt, -1, 0} {
			b.visits(3, key, level, Step{Next: 4, Missed: []Post{{Level: 1, Left: 3, Right: 4, Key: "m"}}})
			b.visits(6, key, level, Step{Next: 0, Missed: []Post{{Level: 1, Left: 6, Right: 0, Key: "m"}}})
		}
		for level := range 4 { // not Here, though of that Level
			b.visits(4, key, level, Step{Next: 65535, Missed: []Post{{Level: 4, Left: 4, Right: 65535, Key: "m"}}})
		}
		b.visits(7, key, 255, Step{Next: 3, Missed: []Post{{Level: 256, Left: 7, Right: 3, Key: "m"}}})
		b.visits(5, key, 0, Step{Next: 5, Here: true})
	}
	for key, child := range map[string]int{"b": 5, "c\xff": 5, "d": 6, "d\x00": 6, "k": 7, "l": 7} {
		for _, level := range []int{0, 1, 2} {
			b.visits(4, key, level, Step{Next: child})
		}
	}
	for _, level := range []int{-1, 0, 2} {
		b.refuses(4, "a\xff", level, api.ErrNone)
		b.refuses(4, "", level, api.ErrNone)
	}
	for n, level := range map[int]int{3: 1, 4: 4, 5: 1, 6: 1, 7: 256} {
		for _, key := range []string{"", "a", "m", "z"} { // ahead of what it covers, and of Child
			b.refuses(n, key, level, api.ErrState)
			b.refuses(n, key, level+1, api.ErrState)
			b.refuses(n, key, math.MaxInt, api.ErrState)
		}
	}
	b.refuses(5, "a", -1, api.ErrNone)
	b.untouched()
}

// threeLevels is a tree, laid by hand, of whose nodes some have no entry above.
//
//	2:  1 ("" 2, p 4)
//	1:  2 ("" 5, d 7)            h  3 (h 8, l 10)              p  4 (p 11)
//	0:  5 (a)  b  6 (b c)  d  7 ()  h  8 (h)  j  9 (j)  l  10 (l m)  p  11 (p)  t  12 (t)
func threeLevels(t *testing.T, frames int) *base {
	t.Helper()
	b := started(t, 20, 6)
	b.high(13)
	b.lays(1, above(2, 0, "", link("", 2), link("p", 4)))
	b.lays(2, above(1, 3, "h", link("", 5), link("d", 7)))
	b.lays(3, above(1, 4, "p", link("h", 8), link("l", 10)))
	b.lays(4, above(1, 0, "", link("p", 11)))
	b.lays(5, leaf(6, "b", "a"))
	b.lays(6, leaf(7, "d", "b", "c"))
	b.lays(7, leaf(8, "h"))
	b.lays(8, leaf(9, "j", "h"))
	b.lays(9, leaf(10, "l", "j"))
	b.lays(10, leaf(11, "p", "l", "m"))
	b.lays(11, leaf(12, "t", "p"))
	b.lays(12, leaf(0, "", "t"))
	b.reopens(frames)
	return b
}

var (
	post6  = Post{1, 5, 6, "b"}
	post3  = Post{2, 2, 3, "h"}
	post9  = Post{1, 8, 9, "j"}
	post12 = Post{1, 11, 12, "t"}
)

func TestP14_1Seek(t *testing.T) {
	b := threeLevels(t, 1)
	for _, x := range []struct {
		key     string
		at      [3]int // of the Levels 0, 1, 2
		missed0 []Post
		missed1 []Post
	}{
		{"", [3]int{5, 2, 1}, nil, nil},
		{"a\xff", [3]int{5, 2, 1}, nil, nil},
		{"b", [3]int{6, 2, 1}, []Post{post6}, nil},
		{"c", [3]int{6, 2, 1}, []Post{post6}, nil},
		{"d", [3]int{7, 2, 1}, nil, nil},
		{"g", [3]int{7, 2, 1}, nil, nil},
		{"h", [3]int{8, 3, 1}, []Post{post3}, []Post{post3}},
		{"i\xff", [3]int{8, 3, 1}, []Post{post3}, []Post{post3}},
		{"j", [3]int{9, 3, 1}, []Post{post3, post9}, []Post{post3}},
		{"k", [3]int{9, 3, 1}, []Post{post3, post9}, []Post{post3}},
		{"l", [3]int{10, 3, 1}, []Post{post3}, []Post{post3}},
		{"o", [3]int{10, 3, 1}, []Post{post3}, []Post{post3}},
		{"p", [3]int{11, 4, 1}, nil, nil},
		{"t", [3]int{12, 4, 1}, []Post{post12}, nil},
		{strings.Repeat("\xff", 1000), [3]int{12, 4, 1}, []Post{post12}, nil},
	} {
		b.seeks(x.key, 0, x.at[0], x.missed0...)
		b.seeks(x.key, 1, x.at[1], x.missed1...)
		b.seeks(x.key, 2, x.at[2])
		for _, level := range []int{3, 256, math.MaxInt} {
			b.seeksNot(root, x.key, level, api.ErrState)
		}
	}
	b.untouched()
	// From another node on: so far as it is one's own root.
	if at, l, e := Seek(b.m, 7, "k", 0); at != 9 || e != api.OK || len(l) != 2 || l[0] != (Post{1, 7, 8, "h"}) || l[1] != post9 {
		t.Error(at, l, e)
	}
	b.seeksNot(7, "k", 1, api.ErrState)
	if at, l, e := Seek(b.m, 9, "a", 0); at != 9 || l != nil || e != api.OK {
		t.Error(at, l, e)
	}
}

func TestP14_1SeekOfBrokenTrees(t *testing.T) {
	b := threeLevels(t, 3)
	b.lays(8, leaf(0, "j", "h")) // no right one: page 0 is no node
	b.seeksNot(root, "k", 0, api.ErrCorrupt)
	b.seeks("i", 0, 8, post3)
	b.lays(9, page.Page{Kind: 2})
	b.lays(8, leaf(9, "j", "h"))
	b.seeksNot(root, "k", 0, api.ErrCorrupt)
	b.lays(2, above(1, 3, "h", link("b", 5), link("d", 7)))
	b.seeksNot(root, "a", 0, api.ErrNone)
	b.lays(2, above(1, 3, "h", link("", 19), link("d", 65535)))
	b.seeksNot(root, "a", 0, api.ErrCorrupt) // never laid
	b.seeksNot(root, "d", 0, api.ErrArg)     // no page of the store
	b.lays(1, above(2, 0, "", link("", 5), link("p", 4)))
	b.seeks("a", 0, 5)
	b.seeksNot(root, "a", 1, api.ErrState) // no node of Level 1 in between
	b.untouched()
	b.getsNone("d", api.OK) // it is found in the row of leaves, from page 5 on
	b.lays(6, leaf(65535, "d", "b"))
	b.getsNone("d", api.ErrArg)
	b.answers(Insert(b.m, root, page.Entry{Key: "d"}), api.ErrArg)
	b.answers(Remove(b.m, root, "d"), api.ErrArg)
	b.settlesNot(Post{0, 5, 6, "d"}, api.ErrArg)
	b.untouched()
}

// TestP1SeekEnds of pages that lead round and round.
func TestP1SeekEnds(t *testing.T) {
	b := started(t, 8, 2)
	ends := func() {
		t.Helper()
		b.seeksNot(root, "k", 0, api.ErrCorrupt)
		b.seeksNot(root, "k", -1, api.ErrCorrupt)
		b.getsNone("k", api.ErrCorrupt)
		b.answers(Insert(b.m, root, page.Entry{Key: "k"}), api.ErrCorrupt)
		b.answers(Remove(b.m, root, "k"), api.ErrCorrupt)
		b.settlesNot(Post{0, 1, 2, "k"}, api.ErrCorrupt)
		b.untouched()
	}
	b.lays(1, leaf(1, "b")) // by Rights
	ends()
	b.lays(1, leaf(2, "b"))
	b.lays(2, leaf(3, "c"))
	b.lays(3, leaf(2, "d"))
	ends()
	b.lays(3, leaf(1, "d"))
	ends()
	b.lays(1, above(1, 0, "", link("", 1))) // by children
	ends()
	b.lays(1, above(1, 0, "", link("", 2)))
	b.lays(2, above(1, 0, "", link("", 3)))
	b.lays(3, above(1, 0, "", link("", 1)))
	ends()
	b.lays(3, above(1, 1, "b", link("", 5))) // by both
	ends()
	b.lays(3, leaf(0, "", "k"))
	b.gets(page.Entry{Key: "k"})
	// Below the leaves: their Values are taken for children.
	b.lays(3, page.Page{Kind: 3, Entries: []page.Entry{link("k", 1)}})
	b.seeksNot(root, "k", -1, api.ErrCorrupt)
	b.seeksNot(root, "k", math.MinInt, api.ErrCorrupt)
	b.seeksNot(root, "j", -1, api.ErrNone)
	b.untouched()
}

// TestP1InsertEnds, where each Level misses a node, whatever is settled: what is
// missed above would come twice as often with each Level.
func TestP1InsertEnds(t *testing.T) {
	const levels = 60
	b := started(t, 2*levels+10, 8)
	b.high(2*levels + 4)
	left := func(level int) int { return 2 + 2*level }
	for level := range levels {
		p, q := leaf(left(level)+1, "m"), leaf(0, "")
		if level > 0 {
			p = above(level, left(level)+1, "m", link("", left(level-1)))
			q = above(level, 0, "", link("m", left(level-1)))
		}
		b.lays(left(level), p)
		b.lays(left(level)+1, q)
	}
	b.lays(root, above(levels, 0, "", link("", left(levels-1)), link("m", left(levels-1))))
	_, missed, e := Seek(b.m, root, "z", 0)
	if len(missed) != levels || e != api.OK {
		t.Fatal(missed, e)
	}
	b.inserts(page.Entry{Key: "z"})
	b.gets(page.Entry{Key: "z"})
}

// TestP14_1OnlyRead: what was only visited is let go, but not what the caller has
// asked itself.
func TestP14_1OnlyRead(t *testing.T) {
	b := threeLevels(t, 13)
	for name, call := range calls() {
		if name == "Create" || name == "Put" || name == "Insert" || name == "Remove" {
			continue
		}
		call(b.m)
		b.seeks("k", 0, 9, post3, post9)
		b.getsNone("zz", api.OK)
		b.answers(Remove(b.m, root, "zz"), api.ErrNone)
		b.answers(Insert(b.m, root, page.Entry{Key: "t"}), api.ErrExists)
		b.putsNot(8, page.Entry{Key: "k"}, api.ErrArg)
		b.putsNot(9, page.Entry{Key: "j"}, api.ErrExists)
		b.settles(Post{1, 5, 7, "d"})
		b.settlesNot(Post{1, 5, 0, "e"}, api.ErrArg)
		b.untouched()
		for n := range 13 {
			b.m.Page(n)
		}
		call(b.m)
		b.seeks("k", 0, 9, post3, post9)
		b.answers(Remove(b.m, root, "zz"), api.ErrNone)
		for n := range 13 {
			if !b.asked(n) {
				t.Error(name, "let go of", n)
			}
		}
		b.aborts()
	}
	// What is changed is asked, and nothing else.
	b.answers(Remove(b.m, root, "j"), api.OK)
	b.inserts(page.Entry{Key: "ab"})
	for n := range 13 {
		if b.asked(n) != (n == 5 || n == 9) {
			t.Error(n)
		}
	}
}

func TestP14_3Get(t *testing.T) {
	b := started(t, 8, 2)
	b.getsNone("", api.OK)
	b.getsNone("a", api.OK)
	has := []page.Entry{{Key: "", Value: "of the empty key"}, {Key: "\x00"}, {Key: "a", Marked: true}, {Key: "a\x00", Value: strings.Repeat("v", 100), Marked: true}, {Key: strings.Repeat("k", 64), Value: "long"}}
	b.inserts(has...)
	b.commits()
	for _, e := range has {
		b.gets(e)
	}
	for _, key := range []string{"\x00\x00", "aa", "b", strings.Repeat("k", 63), strings.Repeat("k", 65), "\xff", strings.Repeat("\xff", 1000)} {
		b.getsNone(key, api.OK)
	}
	b.untouched()
	b = threeLevels(t, 1)
	for _, key := range []string{"a", "b", "c", "h", "j", "l", "m", "p", "t"} {
		b.gets(page.Entry{Key: key})
	}
	for _, key := range []string{"", "bb", "d", "g", "i", "k", "u"} {
		b.getsNone(key, api.OK)
	}
	b.untouched()
}

func TestP14_3Insert(t *testing.T) {
	b := threeLevels(t, 6)
	for _, key := range []string{"", "b\x00", "e", "i", "k", "s", "z"} {
		e := page.Entry{Key: key, Value: "new", Marked: key > "g"}
		b.inserts(e)
		b.gets(e)
		b.answers(Insert(b.m, root, e), api.ErrExists)
		b.answers(Insert(b.m, root, page.Entry{Key: key, Value: strings.Repeat("v", 101)}), api.ErrArg)
		b.gets(e)
		b.commits()
	}
	for _, e := range []page.Entry{{Key: strings.Repeat("k", 65)}, {Key: "d", Value: strings.Repeat("v", 101)}, {Key: "a", Value: strings.Repeat("v", 101)}} {
		b.answers(Insert(b.m, root, e), api.ErrArg)
	}
	for _, key := range []string{"a", "c", "m", "t"} {
		b.answers(Insert(b.m, root, page.Entry{Key: key, Value: "other"}), api.ErrExists)
		b.gets(page.Entry{Key: key})
	}
	b.untouched()
}

// TestP14_3InsertSettlesWhatComes: also what was missed on the way.
func TestP14_3InsertSettlesWhatComes(t *testing.T) {
	b := threeLevels(t, 6)
	b.inserts(page.Entry{Key: "k"})
	if l := missing(b.rows()); len(l) != 2 || l[0] != post6 || l[1] != post12 {
		t.Error(l)
	}
	b.is(1, above(2, 0, "", link("", 2), link("h", 3), link("p", 4)))
	b.is(3, above(1, 4, "p", link("h", 8), link("j", 9), link("l", 10)))
	b.commits()
	b.inserts(page.Entry{Key: "bb"}, page.Entry{Key: "tt"})
	if l := missing(b.rows()); len(l) != 0 {
		t.Error(l)
	}
	b.commits()
	for _, key := range []string{"", "b", "h", "j", "t"} {
		at, missed, e := Seek(b.m, root, key, 0)
		if len(missed) != 0 || e != api.OK {
			t.Error(key, at, missed, e)
		}
	}
}

func TestP14_3Remove(t *testing.T) {
	b := threeLevels(t, 4)
	for _, key := range []string{"", "aa", "d", "i", "k", "u", "zz", strings.Repeat("k", 65)} {
		b.answers(Remove(b.m, root, key), api.ErrNone)
	}
	b.untouched()
	for _, key := range []string{"c", "a", "t", "j", "b"} {
		b.gets(page.Entry{Key: key})
		b.answers(Remove(b.m, root, key), api.OK)
		b.getsNone(key, api.OK)
		b.answers(Remove(b.m, root, key), api.ErrNone)
		b.commits()
		b.getsNone(key, api.OK)
	}
	b.is(9, leaf(10, "l"))
	b.is(6, leaf(7, "d"))
	b.is(12, leaf(0, ""))
	b.is(1, above(2, 0, "", link("", 2), link("p", 4))) // nothing was settled
	if l := missing(b.rows()); len(l) != 4 {
		t.Error(l)
	}
	b.inserts(page.Entry{Key: "j", Value: "again", Marked: true})
	b.answers(Remove(b.m, root, "j"), api.OK) // Marked or not
	b.getsNone("j", api.OK)
}
