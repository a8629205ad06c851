package node

import (
	"math"
	"slices"
	"strings"
	"testing"

	"concordance/api"
	"concordance/page"
)

func with(p page.Page, change func(*page.Page)) page.Page {
	p.Entries = slices.Clone(p.Entries)
	change(&p)
	return p
}

func TestP13_1RightLeaves(t *testing.T) {
	long := strings.Repeat("k", 65)
	for _, p := range []page.Page{
		{Kind: 3},
		{Kind: 3, High: "a"},
		{Kind: 3, Right: 9},
		leaf("", ""),
		leaf("", "a"),
		leaf("b", "a"),
		leaf("a\x00", "a"), // High just above it
		leaf("a", ""),
		leaf("", "a", "b"),
		leaf("", "", "\x00", "\x00\x00", "\x01", "a", "a\x00", "aa", "b", "\xff", "\xff\xff"),
		leaf("c", "a", "b"),
		// Bounds that aren't asked.
		leaf("", "a", long, long+"k"),
		leaf(long+"k", "a", long),
		{Kind: 3, Right: -1},
		{Kind: 3, Right: 65536},
		{Kind: 3, LSN: -1},
		{Kind: 3, Level: -1},
		{Kind: 3, Level: math.MinInt},
		{Kind: 3, Entries: []page.Entry{{Key: "a", Value: strings.Repeat("v", 500)}, {Key: "b", Marked: true}}},
	} {
		if !Right(p) {
			t.Error(p)
		}
	}
}

func TestP13_1NotRightLeaves(t *testing.T) {
	for _, p := range []page.Page{
		{},
		leaf("a", "a"), // High is the key
		leaf("a", "b"),
		leaf("", "a", "a"),
		leaf("", "", ""),
		leaf("", "b", "a"),
		leaf("", "a", "c", "b"),
		leaf("", "a", "b", "b"),
		leaf("", "b", "a", "c"),
		leaf("", "\x80", "\x7f"), // bytes count without sign
		leaf("b", "a", "b"),
		leaf("b", "a", "c"),
		leaf("b", "c", "a"),
		leaf("b", "a", "b", "c"),
	} {
		if Right(p) {
			t.Error(p)
		}
	}
	for _, kind := range []int{math.MinInt, -3, -1, 0, 1, 2, 4, 5, 255, 259, math.MaxInt} {
		for _, p := range []page.Page{leaf("", "a"), above(1, "", "a"), {}} {
			p.Kind = kind
			if Right(p) {
				t.Error(p)
			}
		}
	}
}

func TestP13_1RightAbove(t *testing.T) {
	for _, level := range []int{1, 2, 255, 256, math.MaxInt} {
		for _, p := range []page.Page{
			above(level, "", ""),
			above(level, "", "a"),
			above(level, "b", "a"),
			above(level, "", "", "a"),
			above(level, "c", "a", "b"),
			above(level, strings.Repeat("k", 99), "a", "b", "c"),
			with(above(level, "", "a", "b"), func(p *page.Page) { p.Entries[1].Value = "\x00\x01" }),
			with(above(level, "", "a", "b"), func(p *page.Page) { p.Entries[0].Value = "\x01\x00" }),
			with(above(level, "", "a", "b"), func(p *page.Page) { p.Entries[0].Value = "\xff\xff" }),
			with(above(level, "", "a", "b"), func(p *page.Page) { p.Entries[1].Value = p.Entries[0].Value }),
		} {
			if !Right(p) {
				t.Error(p)
			}
		}
		for _, p := range []page.Page{
			{Kind: 3, Level: level},
			{Kind: 3, Level: level, High: "a"},
			above(level, "a", "a"),
			above(level, "", "a", "a"),
			above(level, "", "b", "a"),
			above(level, "b", "a", "b"),
		} {
			if Right(p) {
				t.Error(p)
			}
		}
	}
}

// TestP13_1ChildrenThatMayNotBe are asked of a Level above 0 alone.
func TestP13_1ChildrenThatMayNotBe(t *testing.T) {
	for _, value := range []string{"", "\x01", "\x00\x00", "\x00\x00\x01", "\x01\x00\x00", "abc", strings.Repeat("v", 100)} {
		for i := range 3 {
			p := with(above(1, "", "a", "b", "c"), func(p *page.Page) { p.Entries[i].Value = value })
			if Right(p) {
				t.Errorf("%q: %v", value, p)
			}
			p.Level = 0
			if !Right(p) {
				t.Errorf("%q: %v", value, p)
			}
			p.Level = -1
			if !Right(p) {
				t.Errorf("%q: %v", value, p)
			}
		}
	}
	for i := range 3 {
		p := with(above(1, "", "a", "b", "c"), func(p *page.Page) { p.Entries[i].Marked = true })
		if Right(p) {
			t.Error(p)
		}
		p.Level = 0
		if !Right(p) {
			t.Error(p)
		}
	}
}

func TestP13_1Covers(t *testing.T) {
	all := []string{"", "\x00", "a", "a\x00", "a\xff", "aa", "b", "\xff", strings.Repeat("k", 1000)}
	for _, key := range all {
		for _, kind := range []int{3, 0, -1, 255} {
			for _, p := range []page.Page{{Kind: kind}, {Kind: kind, Level: 1, Right: 5}, {Kind: kind, Entries: leaf("", "b", "a").Entries}} {
				if !Covers(p, key) {
					t.Errorf("no High: %q", key)
				}
			}
		}
		for _, high := range all[1:] {
			if got := Covers(page.Page{Kind: 3, High: high}, key); got != (key < high) {
				t.Errorf("%q %q: %t", high, key, got)
			}
		}
	}
	for key, want := range map[string]bool{"": true, "a": true, "ab": true, "b": false, "b\x00": false, "a\xff\xff": true, "c": false} {
		for _, level := range []int{0, 1} {
			if Covers(page.Page{Kind: 3, Level: level, High: "b"}, key) != want {
				t.Errorf("%q", key)
			}
		}
	}
	if !Covers(page.Page{Kind: 3, High: "b\x00"}, "b") { // just above it
		t.Error("just above")
	}
}

func TestP13_1Find(t *testing.T) {
	finds := func(p page.Page, key string, want int, there bool) {
		t.Helper()
		if at, found := Find(p, key); at != want || found != there {
			t.Errorf("%q: %d %t, not %d %t", key, at, found, want, there)
		}
	}
	for _, p := range []page.Page{{}, {Kind: 3}, {Kind: 3, High: "a"}} {
		for _, key := range []string{"", "a", "\xff"} {
			finds(p, key, 0, false)
		}
	}
	for _, kind := range []int{3, 0, 1} {
		p := leaf("", "", "b", "bb", "d\x00")
		p.Kind = kind
		for level := range 2 {
			p.Level = level
			finds(p, "", 0, true)
			finds(p, "\x00", 1, false)
			finds(p, "a", 1, false)
			finds(p, "b", 1, true)
			finds(p, "b\x00", 2, false)
			finds(p, "bb", 2, true)
			finds(p, "bbb", 3, false)
			finds(p, "d", 3, false)
			finds(p, "d\x00", 3, true)
			finds(p, "d\x00\x00", 4, false)
			finds(p, strings.Repeat("\xff", 1000), 4, false)
		}
	}
	finds(leaf("", "b"), "", 0, false)
	finds(leaf("", "b"), "b", 0, true)
	finds(leaf("", "b"), "c", 1, false)
	finds(leaf("b", "a", "c", "d"), "d", 2, true) // above its High
	p := leaf("", "a")
	p.Entries[0].Marked = true
	finds(p, "a", 0, true)
}

func TestP13_1Child(t *testing.T) {
	child := func(p page.Page, key string, want int, wantError api.Errno) {
		t.Helper()
		if n, e := Child(p, key); n != want || e != wantError {
			t.Errorf("%q: %d %d, not %d %d", key, n, e, want, wantError)
		}
	}
	p := above(1, "", "", "b", "d")
	for key, want := range map[string]int{"": 11, "\x00": 11, "a\xff": 11, "b": 12, "b\x00": 12, "c": 12, "d": 13, "d\x00": 13, "z": 13, strings.Repeat("\xff", 99): 13} {
		child(p, key, want, api.OK)
	}
	p = above(2, "e", "b", "d")
	for _, key := range []string{"", "a", "a\xff", "\x00"} {
		child(p, key, 0, api.ErrNone)
	}
	child(p, "b", 11, api.OK)
	child(p, "d", 12, api.OK)
	child(p, "e", 12, api.OK) // which it doesn't cover
	child(above(1, "", "b"), "a", 0, api.ErrNone)
	child(above(1, "", "b"), "b", 11, api.OK)
	for _, p := range []page.Page{{}, {Kind: 3}, {Kind: 3, Level: 1}} {
		for _, key := range []string{"", "a"} {
			child(p, key, 0, api.ErrNone)
		}
	}
	for value, want := range map[string]int{"\x00\x01": 1, "\x00\xff": 255, "\x01\x00": 256, "\x12\x34": 0x1234, "\xff\xff": 65535} {
		child(page.Page{Kind: 3, Level: 1, Entries: []page.Entry{{Value: value}}}, "k", want, api.OK)
	}
	p = above(1, "", "", "b")
	p.Kind, p.Entries[1].Marked = 7, true // no node, but its keys rise
	child(p, "a", 11, api.OK)
	child(p, "c", 12, api.OK)
}

func TestP13_1Link(t *testing.T) {
	for n, want := range map[int]string{1: "\x00\x01", 2: "\x00\x02", 255: "\x00\xff", 256: "\x01\x00", 799: "\x03\x1f", 65534: "\xff\xfe", 65535: "\xff\xff",
		0: "", -1: "", -65535: "", 65536: "", 65537: "", 1 << 32: "", 1<<32 + 1: "", math.MaxInt: "", math.MinInt: ""} {
		if got := Link(n); got != want {
			t.Errorf("%d: %q", n, got)
		}
	}
	for n := 1; n <= 65535; n++ {
		p := page.Page{Kind: 3, Level: 1, Entries: []page.Entry{{Value: Link(n)}}}
		if got, e := Child(p, ""); got != n || e != api.OK || !Right(p) {
			t.Fatal(n, got, e)
		}
	}
}

func TestP13_2Insert(t *testing.T) {
	p := page.Page{LSN: 7, Kind: 3, Right: 9, High: "x"}
	for i, key := range []string{"m", "c", "", "w\xff", "d", "\x00", "c\x00"} {
		e := page.Entry{Key: key, Value: strings.Repeat("v", i), Marked: i%2 == 1}
		q, x := Insert(p, e)
		if x != api.OK || !Right(q) || q.LSN != 7 || q.Right != 9 || q.High != "x" || q.Level != 0 {
			t.Fatal(key, q, x)
		}
		at, found := Find(q, key)
		if !found || q.Entries[at] != e || len(q.Entries) != i+1 {
			t.Error(key, q)
		}
		r, x := Remove(q, key)
		is(t, r, x, p)
		p = q
	}
	if keys := keysOf(p); keys != " \x00 c c\x00 d m w\xff" {
		t.Errorf("%q", keys)
	}
	q, e := Insert(above(1, "", "", "b"), page.Entry{Key: "a", Value: Link(5)})
	want := page.Page{Kind: 3, Level: 1, Entries: []page.Entry{{Value: Link(11)}, {Key: "a", Value: Link(5)}, {Key: "b", Value: Link(12)}}}
	is(t, q, e, want)
}

func TestP13_2InsertOfWhatMayNotBe(t *testing.T) {
	long, longest := strings.Repeat("k", 65), strings.Repeat("k", 64)
	for _, p := range []page.Page{leaf("x", "a", "b"), above(1, "x", "a", "b"), leaf("x", "a"), {Kind: 3, High: "x"}, {Kind: 3, High: "x", Entries: sized(160, 160, 160).Entries}} {
		for _, e := range []page.Entry{{Key: long}, {Key: "k", Value: strings.Repeat("v", 101)}, {Key: "x"}, {Key: "x\x00"}, {Key: "y"}, {Key: "\xff"},
			{Key: long, Value: strings.Repeat("v", 101)}, {Key: "a", Value: strings.Repeat("v", 101)}, {Key: strings.Repeat("k", 1000)}, {Key: strings.Repeat("x", 65)}} {
			q, x := Insert(p, e)
			refuses(t, q, x, api.ErrArg) // ahead of ErrExists and ErrFull
		}
	}
	p := leaf("x", "a", "b")
	q, x := Insert(p, page.Entry{Key: longest, Value: strings.Repeat("v", 100)})
	if x != api.OK || len(q.Entries) != 3 || q.Entries[2].Key != longest {
		t.Error(q, x)
	}
	q, x = Insert(p, page.Entry{Key: "w\xff\xff"})
	if x != api.OK {
		t.Error(q, x)
	}
	q, x = Insert(leaf("a\x00"), page.Entry{Key: "a"}) // High just above it
	is(t, q, x, page.Page{Kind: 3, High: "a\x00", Entries: []page.Entry{{Key: "a"}}})
	q, x = Insert(leaf("a"), page.Entry{Key: "a"})
	refuses(t, q, x, api.ErrArg)
}

func TestP13_2InsertOfWhatIsThere(t *testing.T) {
	full := sized(163, 163, 163)
	if page.Free(full) != 0 {
		t.Fatal(page.Free(full))
	}
	for _, p := range []page.Page{leaf("x", "a"), leaf("", "", "a", "b"), above(1, "", "", "a"), full,
		with(leaf("", "a"), func(p *page.Page) { p.Entries[0].Marked = true })} {
		for _, e := range []page.Entry{{Key: "a"}, {Key: "a", Value: "v"}, {Key: "a", Value: strings.Repeat("v", 100), Marked: true}} {
			q, x := Insert(p, e)
			refuses(t, q, x, api.ErrExists) // ahead of ErrFull
		}
	}
	q, x := Insert(leaf("", "", "a"), page.Entry{})
	refuses(t, q, x, api.ErrExists)
}

func TestP13_2InsertAndRoom(t *testing.T) {
	for _, high := range []string{"", "x", strings.Repeat("x", 64)} {
		for size := 3 + 1; size <= 3+1+100; size++ {
			// Five entries, and room for just one more of so many bytes.
			rest := 489 - len(high) - size
			p := sized(rest/5, rest/5, rest/5, rest/5, rest-rest/5*4)
			p.High = high
			e := page.Entry{Key: "b\x00"[:1+size%2], Marked: size%3 == 0}
			if e.Key == "b" {
				e.Key = "f"
			}
			e.Value = strings.Repeat("v", size-3-len(e.Key))
			q, x := Insert(p, e)
			if x != api.OK || page.Free(q) != 0 || !Right(q) {
				t.Error(size, q, x)
			}
			if _, x := page.Encode(q); x != api.OK {
				t.Error(size, x)
			}
			if len(e.Value) == 100 {
				continue
			}
			e.Value += "v" // one byte more than there is room for
			q, x = Insert(p, e)
			refuses(t, q, x, api.ErrFull)
		}
	}
	p := sized(163, 163, 163)
	q, x := Insert(p, page.Entry{})
	refuses(t, q, x, api.ErrFull)
	p.Entries = append(p.Entries, page.Entry{Key: "e", Value: strings.Repeat("v", 200)}) // below 0 already
	q, x = Insert(p, page.Entry{})
	refuses(t, q, x, api.ErrFull)
	q, x = Insert(page.Page{Kind: 3, High: strings.Repeat("x", 490)}, page.Entry{})
	refuses(t, q, x, api.ErrFull)
}

func TestP13_2Mark(t *testing.T) {
	p := leaf("x", "", "b", "c")
	p.LSN, p.Right = 5, 8
	for i, key := range []string{"", "b", "c"} {
		q, x := Mark(p, key, true)
		is(t, q, x, with(p, func(p *page.Page) { p.Entries[i].Marked = true }))
		again, x := Mark(q, key, true)
		refuses(t, again, x, api.ErrState)
		back, x := Mark(q, key, false)
		is(t, back, x, p)
		again, x = Mark(back, key, false)
		refuses(t, again, x, api.ErrState)
		q, x = Mark(p, key, false)
		refuses(t, q, x, api.ErrState)
	}
	for _, p := range []page.Page{p, leaf(""), leaf("", "d"), leaf("a"), above(1, "", "aa")} {
		for _, key := range []string{"a", "bb", "x", "y", strings.Repeat("k", 65)} {
			for _, marked := range []bool{true, false} {
				q, x := Mark(p, key, marked)
				refuses(t, q, x, api.ErrNone)
			}
		}
	}
	q, x := Mark(above(1, "", "", "b"), "b", true)
	if x != api.OK || !q.Entries[1].Marked || q.Entries[0].Marked || Right(q) {
		t.Error(q, x)
	}
}

func TestP13_2Remove(t *testing.T) {
	p := leaf("x", "", "b", "c")
	p.LSN, p.Right, p.Entries[1].Marked = 5, 8, true
	for i, key := range []string{"", "b", "c"} {
		q, x := Remove(p, key)
		is(t, q, x, with(p, func(p *page.Page) { p.Entries = slices.Delete(p.Entries, i, i+1) }))
		again, x := Remove(q, key)
		refuses(t, again, x, api.ErrNone)
	}
	q, x := Remove(leaf("x", "a"), "a")
	is(t, q, x, page.Page{Kind: 3, High: "x"})
	for _, p := range []page.Page{p, leaf(""), leaf("", "d"), leaf("a"), above(1, "", "aa")} {
		for _, key := range []string{"a", "bb", "x", "y", strings.Repeat("k", 65)} {
			q, x := Remove(p, key)
			refuses(t, q, x, api.ErrNone)
		}
	}
	q, x = Remove(above(1, "", "", "b"), "b")
	is(t, q, x, above(1, "", ""))
	q, x = Remove(above(1, "", ""), "")
	is(t, q, x, page.Page{Kind: 3, Level: 1})
}

func TestP13_2WhatIsHandedInStays(t *testing.T) {
	for _, p := range []page.Page{leaf("", "b"), leaf("x", "b", "d"), leaf("", "b", "d", "f", "h"), above(1, "", "", "b", "d"), leaf("", "b", "c", "d", "e", "f", "g", "h", "i")} {
		for _, key := range []string{"", "a", "b", "c", "d", "e", "hh", "z"} {
			keeps(t, p, func(p page.Page) []page.Page {
				q, _ := Insert(p, page.Entry{Key: key, Value: "new"})
				r, _ := Insert(p, page.Entry{Key: key, Value: "newer"})
				return []page.Page{q, r}
			})
			keeps(t, p, func(p page.Page) []page.Page {
				q, _ := Remove(p, key)
				r, _ := Mark(p, key, true)
				_, x := Mark(p, key, false)
				if x == api.OK {
					t.Error("Mark")
				}
				return []page.Page{q, r}
			})
		}
	}
	keeps(t, leaf("x"), func(p page.Page) []page.Page {
		q, _ := Insert(p, page.Entry{Key: "a"})
		r, _ := Insert(p, page.Entry{Key: "b"})
		return []page.Page{q, r}
	})
}

func TestP13_3Split(t *testing.T) {
	p := leaf("x", "a", "b", "c", "d")
	p.LSN, p.Right, p.Entries[2].Marked = 12, 34, true
	first, rest, e := Split(p, 56)
	want, wantRest := p, p
	want.Entries, want.High, want.Right = p.Entries[:2], "c", 56
	wantRest.Entries = p.Entries[2:]
	is(t, first, e, want)
	is(t, rest, e, wantRest)
	if !Right(first) || !Right(rest) {
		t.Error(first, rest)
	}
	p = above(7, "", "", "b", "c")
	first, rest, e = Split(p, 1)
	is(t, first, e, page.Page{Kind: 3, Level: 7, Right: 1, High: "c", Entries: p.Entries[:2]})
	is(t, rest, e, page.Page{Kind: 3, Level: 7, Entries: p.Entries[2:]})
	p.Kind, p.Level = 9, -4 // no node, but its keys rise
	first, rest, e = Split(p, 65535)
	is(t, first, e, page.Page{Kind: 9, Level: -4, Right: 65535, High: "c", Entries: p.Entries[:2]})
	is(t, rest, e, page.Page{Kind: 9, Level: -4, Entries: p.Entries[2:]})
}

func TestP13_3SplitWhere(t *testing.T) {
	for _, x := range []struct {
		at    int
		sizes []int
	}{
		// All of one size.
		{1, []int{20, 20}},
		{2, []int{20, 20, 20}},
		{2, []int{20, 20, 20, 20}},
		{3, []int{20, 20, 20, 20, 20}},
		{3, []int{20, 20, 20, 20, 20, 20}},
		// The first one is greater than all others together, as great, smaller.
		{1, []int{61, 20, 20, 20}},
		{1, []int{60, 20, 20, 20}},
		{2, []int{59, 20, 20, 20}},
		{1, []int{100, 5}},
		{1, []int{100, 5, 5, 5, 5, 5, 5}},
		// The last one is.
		{3, []int{20, 20, 20, 61}},
		{3, []int{20, 20, 20, 60}},
		{3, []int{20, 20, 20, 59}},
		{3, []int{20, 20, 20, 100}},
		{1, []int{5, 100}},
		{6, []int{5, 5, 5, 5, 5, 5, 100}},
		{2, []int{20, 20, 40}},
		{2, []int{20, 20, 41}},
		{2, []int{20, 21, 40}},
		// In the midst.
		{2, []int{10, 20, 30}},
		{2, []int{10, 100, 10}},
		{2, []int{10, 100, 10, 100}},
		{1, []int{100, 10, 90}},
		{2, []int{100, 10, 91}},
		{3, []int{10, 10, 40, 10, 10}},
		{2, []int{40, 10, 10, 40}},
		{3, []int{39, 10, 10, 40}},
	} {
		p := sized(x.sizes...)
		first, rest, e := Split(p, 9)
		if e != api.OK || !slices.Equal(first.Entries, p.Entries[:x.at]) || !slices.Equal(rest.Entries, p.Entries[x.at:]) || first.High != p.Entries[x.at].Key {
			t.Errorf("%v: %d, not %d", x.sizes, len(first.Entries), x.at)
		}
	}
	// A Size counts the key, too.
	p := leaf("", "a", "b", strings.Repeat("c", 60))
	if first, _, _ := Split(p, 9); len(first.Entries) != 2 {
		t.Error(first)
	}
	p = leaf("", strings.Repeat("a", 60), "b", "c")
	if first, _, _ := Split(p, 9); len(first.Entries) != 1 {
		t.Error(first)
	}
	p = leaf("", "aaaa", "b", "c")
	p.Entries[0].Value, p.Entries[1].Value, p.Entries[2].Value = "", "", "" // 7 bytes, 4, 4
	if first, _, _ := Split(p, 9); len(first.Entries) != 2 {
		t.Error(first)
	}
}

func TestP13_3SplitOfWhatMayNotBe(t *testing.T) {
	for _, p := range []page.Page{{}, {Kind: 3}, leaf("", "a"), leaf("", "a", "b"), above(1, "", "a", "b", "c")} {
		for _, right := range []int{math.MinInt, -1, 0, 65536, 65537, 1<<32 + 1, math.MaxInt} {
			first, rest, e := Split(p, right)
			refuses(t, first, e, api.ErrArg) // ahead of ErrState
			refuses(t, rest, e, api.ErrArg)
		}
		for _, right := range []int{1, 2, 65534, 65535} {
			first, rest, e := Split(p, right)
			if len(p.Entries) < 2 {
				refuses(t, first, e, api.ErrState)
				refuses(t, rest, e, api.ErrState)
			} else if e != api.OK || first.Right != right || rest.Right != 0 {
				t.Error(first, rest, e)
			}
		}
	}
}

func TestP13_3WhatIsHandedInStays(t *testing.T) {
	for n := 2; n < 12; n++ {
		keeps(t, sized(slices.Repeat([]int{20}, n)...), func(p page.Page) []page.Page {
			a, b, _ := Split(p, 9)
			c, d, _ := Split(p, 9)
			return []page.Page{a, b, c, d}
		})
	}
	// The halves can be changed one after the other.
	a, b, _ := Split(sized(20, 20, 20), 9)
	a.Entries = append(a.Entries, page.Entry{Key: "bb"})
	if keysOf(a) != "a b bb" || keysOf(b) != "c" {
		t.Error(a, b)
	}
}
