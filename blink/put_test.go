package blink

import (
	"math"
	"strings"
	"testing"

	"concordance/api"
	"concordance/page"
	"concordance/space"
)

// of entries, a list.
func of(l ...page.Entry) []page.Entry { return l }

// of84 has one entry for each letter; five of them fill a page.
func of84(letters string) []page.Entry {
	var l []page.Entry
	for _, c := range letters {
		l = append(l, sized(string(c), 84))
	}
	return l
}

func nodeWith(level, right int, high string, l []page.Entry) page.Page {
	return page.Page{Kind: 3, Level: level, Right: right, High: high, Entries: l}
}

// filled has a root with these entries.
func filled(t *testing.T, pages int, l []page.Entry) *base {
	t.Helper()
	b := started(t, pages, 10)
	b.lays(root, nodeWith(0, 0, "", l))
	return b
}

func (b *base) taken(want int) {
	b.t.Helper()
	if n, e := space.Get(b.m, "high"); n != want || e != api.OK {
		b.t.Errorf("high: %d %d, not %d", n, e, want)
	}
}

func TestP14_2Put(t *testing.T) {
	b := threeLevels(t, 4)
	for _, x := range []struct {
		at  int
		key string
	}{{5, ""}, {6, "bb"}, {6, "c\xff"}, {7, "d"}, {9, "k"}, {12, strings.Repeat("z", 64)}} {
		want := b.page(x.at)
		e := page.Entry{Key: x.key, Value: strings.Repeat("v", 100), Marked: true}
		b.puts(x.at, e)
		b.gets(e)
		got := b.page(x.at)
		if len(got.Entries) != len(want.Entries)+1 || got.High != want.High || got.Right != want.Right {
			t.Error(got)
		}
		b.commits()
	}
	b.puts(3, link("j", 9)) // also above the leaves
	b.is(3, above(1, 4, "p", link("h", 8), link("j", 9), link("l", 10)))
	b.seeks("k", 0, 9, post3)
}

func TestP14_2PutOfWhatMayNotBe(t *testing.T) {
	b := threeLevels(t, 3)
	for _, at := range []int{2, 3, 5, 6, 8, 11} { // they don't cover it, but 9 does
		b.putsNot(at, page.Entry{Key: "zz"}, api.ErrArg)
	}
	b.putsNot(6, page.Entry{Key: "d"}, api.ErrArg) // its High
	b.putsNot(6, page.Entry{Key: "b", Value: strings.Repeat("v", 101)}, api.ErrArg)
	b.putsNot(12, page.Entry{Key: strings.Repeat("z", 65)}, api.ErrArg)
	b.putsNot(6, page.Entry{Key: "b"}, api.ErrExists)
	b.putsNot(6, page.Entry{Key: "c", Value: "other", Marked: true}, api.ErrExists)
	b.putsNot(2, link("", 5), api.ErrExists)
	b.putsNot(2, link("d", 8), api.ErrExists)
	for _, n := range []int{0, 15} { // no nodes
		b.putsNot(n, page.Entry{Key: "a"}, api.ErrCorrupt)
		b.putsNot(n, page.Entry{Key: strings.Repeat("z", 65)}, api.ErrCorrupt)
	}
	for _, n := range []int{math.MinInt, -1, 20, math.MaxInt} {
		b.putsNot(n, page.Entry{Key: "a"}, api.ErrArg)
	}
	b.untouched()
	full := filled(t, 6, of84("abcde"))
	full.putsNot(root, page.Entry{Key: "c"}, api.ErrExists) // ahead of ErrFull
	full.putsNot(root, page.Entry{Key: "f", Value: strings.Repeat("v", 101)}, api.ErrArg)
	full.putsNot(root, sized("c", 84), api.ErrExists)
	full.untouched()
}

func TestP14_2PutAndRoom(t *testing.T) {
	free := 489 - 5*84
	b := filled(t, 6, of84("bcdef"))
	b.puts(root, sized("a", free)) // just room
	b.is(root, nodeWith(0, 0, "", append(of(sized("a", free)), of84("bcdef")...)))
	b.taken(2)
	b.aborts()
	b.puts(root, sized("a", free+1)) // one byte less
	b.taken(4)
	b.is(root, above(1, 0, "", link("", 2), link("e", 3)))
}

func TestP14_2PutSplitsTheRoot(t *testing.T) {
	for _, x := range []struct{ key, left, right string }{
		{"f", "abc", "def"},
		{"A", "Aabc", "de"},
		{"c\x00", "abcx", "de"}, // below the right half's first key
		{"d\x00", "abc", "dxe"},
	} {
		b := filled(t, 8, of84("abcde"))
		e := sized(x.key, 84)
		b.puts(root, e)
		named := func(letters string) []page.Entry {
			l := of84(letters)
			for i := range l {
				if l[i].Key == "x" {
					l[i] = e
				}
			}
			return l
		}
		b.is(root, above(1, 0, "", link("", 2), link("d", 3)))
		b.is(2, nodeWith(0, 3, "d", named(x.left)))
		b.is(3, nodeWith(0, 0, "", named(x.right)))
		b.taken(4)
		b.gets(e)
		b.seeks("c", 0, 2)
		b.seeks("d", 0, 3)
		b.seeks("z", 1, root)
		b.commits()
		b.is(root, above(1, 0, "", link("", 2), link("d", 3)))
	}
}

// TestP14_2PutTakesGivenBackPages, the left half's first.
func TestP14_2PutTakesGivenBackPages(t *testing.T) {
	b := filled(t, 8, of84("abcde"))
	for range 4 {
		space.Take(b.m)
	}
	for _, n := range []int{3, 5} {
		b.answers(space.Give(b.m, n), api.OK)
	}
	b.commits()
	b.puts(root, sized("f", 84))
	b.is(root, above(1, 0, "", link("", 5), link("d", 3)))
	b.is(5, nodeWith(0, 3, "d", of84("abc")))
	b.is(3, nodeWith(0, 0, "", of84("def")))
}

func TestP14_2PutSplitsAnother(t *testing.T) {
	b := filled(t, 20, of84("abcde"))
	b.puts(root, sized("f", 84)) // 2: a b c, 3: d e f
	b.puts(3, sized("g", 84))
	b.puts(3, sized("h", 84))
	b.commits()
	b.puts(3, sized("i", 84), Post{Level: 1, Left: 3, Right: 4, Key: "g"})
	b.is(3, nodeWith(0, 4, "g", of84("def")))
	b.is(4, nodeWith(0, 0, "", of84("ghi")))
	b.is(root, above(1, 0, "", link("", 2), link("d", 3)))
	b.puts(2, sized("ba", 84))
	b.puts(2, sized("bb", 84))
	b.puts(2, sized("bc", 84), Post{Level: 1, Left: 2, Right: 5, Key: "bb"})
	b.is(2, nodeWith(0, 5, "bb", of(sized("a", 84), sized("b", 84), sized("ba", 84))))
	b.is(5, nodeWith(0, 3, "d", of(sized("bb", 84), sized("bc", 84), sized("c", 84))))
	b.seeks("c", 0, 5, Post{1, 2, 5, "bb"})
	b.seeks("h", 0, 4, Post{1, 3, 4, "g"})
	b.settles(Post{1, 3, 4, "g"})
	b.settles(Post{1, 2, 5, "bb"})
	b.is(root, above(1, 0, "", link("", 2), link("bb", 5), link("d", 3), link("g", 4)))
	b.seeks("c", 0, 5)
	b.seeks("h", 0, 4)
	b.taken(6)
}

// full8 has a root of Level 1 with eight leaves of one entry each, from page 2 on,
// by keys of 64 bytes; the ninth link finds no room.
func full8(t *testing.T, pages int) *base {
	t.Helper()
	b := started(t, 20, 10)
	b.high(10)
	l := of(link("", 2))
	for i, c := range "bcdefgh" {
		l = append(l, link(long(string(c)), 3+i))
	}
	b.lays(root, nodeWith(1, 0, "", l))
	for i, c := range "abcdefgh" {
		p := leaf(3+i, long(string(c+1)), long(string(c)))
		if c == 'h' {
			p.High, p.Right = "", 0
		}
		b.lays(2+i, p)
	}
	b.m.Abort()
	b.answers(b.s.Checkpoint(""), api.OK)
	b.p.Pages = pages // the store has no more of them
	b.opens()
	return b
}

func TestP14_2SettleSplitsTheRoot(t *testing.T) {
	b := full8(t, 20)
	// A leaf that was split half by hand.
	b.high(11)
	b.lays(9, leaf(10, long("i"), long("h")))
	b.lays(10, leaf(0, "", long("i")))
	b.settles(Post{1, 9, 10, long("i")})
	b.is(root, above(2, 0, "", link("", 11), link(long("f"), 12)))
	b.is(11, above(1, 12, long("f"), link("", 2), link(long("b"), 3), link(long("c"), 4), link(long("d"), 5), link(long("e"), 6)))
	b.is(12, above(1, 0, "", link(long("f"), 7), link(long("g"), 8), link(long("h"), 9), link(long("i"), 10)))
	b.seeks(long("i"), 0, 10)
	b.seeks(long("b"), 1, 11)
	b.seeks(long("b"), 2, root)
	if l := missing(b.rows()); len(l) != 0 {
		t.Error(l)
	}
	b.taken(13)
	b.commits()
	// And another node of Level 1: what is to be posted is of Level 2.
	b.puts(11, link(long("da"), 2))
	b.puts(11, link(long("db"), 2))
	b.puts(11, link(long("dc"), 2), Post{Level: 2, Left: 11, Right: 13, Key: long("da")})
	b.is(13, above(1, 12, long("f"), link(long("da"), 2), link(long("db"), 2), link(long("dc"), 2), link(long("e"), 6)))
}

func TestP14_2SettleOfWhatIsThere(t *testing.T) {
	b := threeLevels(t, 4)
	b.settles(Post{1, 5, 7, "d"})
	b.settles(Post{2, 3, 4, "p"})
	b.settles(Post{1, 6, 99, "d"})        // whatever its child is
	b.settles(Post{1, 0, -7, ""})         // and whatever the Post's pages are
	b.settles(Post{1, 9, 10, "l"}, post3) // what was missed on the way is told
	b.settles(Post{0, 1, 2, "c"}, post6)  // also in a leaf
	b.settles(Post{0, 1, 2, "j"}, post3, post9)
	b.untouched()
}

func TestP14_2SettleOfWhatWasForgotten(t *testing.T) {
	b := threeLevels(t, 6)
	b.settles(post9, post3)
	b.is(3, above(1, 4, "p", link("h", 8), link("j", 9), link("l", 10)))
	b.seeks("k", 0, 9, post3)
	b.settles(post9, post3) // a second time: nothing
	b.is(3, above(1, 4, "p", link("h", 8), link("j", 9), link("l", 10)))
	b.settles(post3)
	b.is(1, above(2, 0, "", link("", 2), link("h", 3), link("p", 4)))
	b.seeks("k", 0, 9)
	b.settles(post12)
	b.settles(post6)
	b.commits()
	b.is(2, above(1, 3, "h", link("", 5), link("b", 6), link("d", 7)))
	b.is(4, above(1, 0, "", link("p", 11), link("t", 12)))
	if l := missing(b.rows()); len(l) != 0 {
		t.Error(l)
	}
}

// TestP14_2SettleTellsAllPosts: those of its Seek, then those of its Put.
func TestP14_2SettleTellsAllPosts(t *testing.T) {
	b := threeLevels(t, 8)
	l := of(link("h", 8))
	for i, c := range "ijklmn" {
		l = append(l, link(long(string(c)), 13+i))
	}
	b.lays(3, nodeWith(1, 4, "p", l))
	b.settles(Post{1, 16, 17, long("la")}, post3, Post{Level: 2, Left: 3, Right: 13, Key: long("l")})
	b.is(3, nodeWith(1, 13, long("l"), l[:4]))
	b.seeks(long("l"), 1, 13, post3, Post{2, 3, 13, long("l")})
}

func TestP14_2SettleOfWhatMayNotBe(t *testing.T) {
	b := threeLevels(t, 4)
	for _, right := range []int{math.MinInt, -1, 0, 65536, math.MaxInt} { // no child's page
		b.settlesNot(Post{1, 8, right, "j"}, api.ErrArg)
	}
	b.settlesNot(Post{1, 8, 9, strings.Repeat("j", 65)}, api.ErrArg)
	for _, level := range []int{3, 4, 255, math.MaxInt} {
		b.settlesNot(Post{level, 8, 9, "j"}, api.ErrState)
	}
	for _, level := range []int{-1, math.MinInt} { // below the leaves there is nothing
		b.settlesNot(Post{level, 8, 9, "j"}, api.ErrCorrupt)
		b.settlesNot(Post{level, 8, 9, "d"}, api.ErrNone)
	}
	b.untouched()
	for _, right := range []int{1, 65535} {
		b.settles(Post{1, 5, right, "a"})
		b.is(2, above(1, 3, "h", link("", 5), link("a", right), link("d", 7)))
		b.aborts()
	}
}

// TestP14_2PutWhoseHalfHasNoRoom: it is split, too.
func TestP14_2PutWhoseHalfHasNoRoom(t *testing.T) {
	p, q, r := sized(long("b"), 100), sized(long("d"), 167), sized(long("f"), 167)
	for _, e := range of(sized(long("a"), 167), sized(long("c"), 167), sized(long("e"), 167)) {
		b := filled(t, 8, of(p, q, r))
		b.puts(root, e, Post{Level: 1, Left: 2, Right: 4, Key: q.Key}) // the root's own split is posted at once
		b.is(root, above(1, 0, "", link("", 2), link(r.Key, 3)))
		left, right := of(p), of(q)
		switch {
		case e.Key < p.Key:
			left = of(e, p)
		case e.Key < q.Key:
			left = of(p, e)
		default:
			right = of(q, e)
		}
		b.is(2, nodeWith(0, 4, q.Key, left))
		b.is(4, nodeWith(0, 3, r.Key, right))
		b.is(3, nodeWith(0, 0, "", of(r)))
		b.gets(e)
		b.seeks(p.Key, 0, 2)
		b.seeks(q.Key, 0, 4, Post{1, 2, 4, q.Key})
		b.seeks(r.Key, 0, 3)
		b.commits()
	}
}

func TestP14_2PutOfAnotherWhoseHalfHasNoRoom(t *testing.T) {
	b := threeLevels(t, 8)
	p, q, r := sized(long("tb"), 100), sized(long("td"), 167), sized(long("tf"), 167)
	b.lays(12, nodeWith(0, 0, "", of(p, q, r)))
	e := sized(long("tc"), 167)
	b.puts(12, e, Post{Level: 1, Left: 12, Right: 13, Key: r.Key}, Post{Level: 1, Left: 12, Right: 14, Key: q.Key})
	b.is(12, nodeWith(0, 14, q.Key, of(p, e)))
	b.is(14, nodeWith(0, 13, r.Key, of(q)))
	b.is(13, nodeWith(0, 0, "", of(r)))
	b.taken(15)
	b.seeks(long("tz"), 0, 13, post12, Post{1, 12, 14, q.Key}, Post{1, 14, 13, r.Key})
	// Settled in the other order than they came, then the one that was missed.
	b.settles(Post{1, 12, 14, q.Key})
	b.seeks(long("tz"), 0, 13, Post{1, 14, 13, r.Key})
	b.settles(Post{1, 12, 13, r.Key})
	b.settles(post12)
	b.is(4, above(1, 0, "", link("p", 11), link("t", 12), link(q.Key, 14), link(r.Key, 13)))
}

func TestP14_2FirstOrLastEntryIsGreatest(t *testing.T) {
	b := threeLevels(t, 8)
	high := long("t")
	first, last := sized(long("pb"), 167), sized(long("pf"), 167)
	b.lays(11, nodeWith(0, 12, high, of(first, sized("pc", 80), sized("pd", 80))))
	b.lays(12, leaf(0, "", long("t")))
	b.puts(11, sized(long("pe"), 167), Post{1, 11, 13, "pc"})
	b.is(11, nodeWith(0, 13, "pc", of(first)))
	b.is(13, nodeWith(0, 12, high, of(sized("pc", 80), sized("pd", 80), sized(long("pe"), 167))))
	b.aborts()
	b.lays(11, nodeWith(0, 12, high, of(sized("pc", 80), sized("pd", 80), last)))
	b.puts(11, sized(long("pe"), 167), Post{1, 11, 13, long("pf")})
	b.is(11, nodeWith(0, 13, long("pf"), of(sized("pc", 80), sized("pd", 80), sized(long("pe"), 167))))
	b.is(13, nodeWith(0, 12, high, of(last)))
}

// TestP14_2NoPageLeft in the midst: the changes are aborted then, and nothing is
// changed.
func TestP14_2NoPageLeft(t *testing.T) {
	for pages := 2; pages <= 3; pages++ { // none, and one where two are needed
		b := filled(t, pages, of84("abcde"))
		b.putsNot(root, sized("f", 84), api.ErrFull)
		b.aborts()
		b.answers(Insert(b.m, root, sized("f", 84)), api.ErrFull)
		b.aborts()
		b.is(root, nodeWith(0, 0, "", of84("abcde")))
		b.taken(2)
		b.inserts(sized("f", 30))
		b.gets(sized("f", 30))
	}
	b := filled(t, 4, of84("abcde"))
	b.puts(root, sized("f", 84))
	b.inserts(of84("gh")...)
	b.commits()
	b.putsNot(3, sized("i", 84), api.ErrFull)
	b.aborts()
	b.is(3, nodeWith(0, 0, "", of84("defgh")))
	b.answers(Insert(b.m, root, sized("i", 84)), api.ErrFull)
	b.aborts()
	b.is(3, nodeWith(0, 0, "", of84("defgh")))
	b.inserts(of84("A")...)
	// A half whose own split finds none.
	for pages, want := range map[int]api.Errno{4: api.ErrFull, 5: api.OK} {
		b := filled(t, pages, of(sized(long("b"), 100), sized(long("d"), 167), sized(long("f"), 167)))
		b.answers(Insert(b.m, root, sized(long("c"), 167)), want)
		b.aborts()
		b.is(root, nodeWith(0, 0, "", of(sized(long("b"), 100), sized(long("d"), 167), sized(long("f"), 167))))
	}
	// A Post that finds none, behind a Put that found one.
	for pages, want := range map[int]api.Errno{10: api.ErrFull, 11: api.ErrFull, 12: api.ErrFull, 13: api.OK} {
		b := full8(t, pages)
		two := of(sized(long("h"), 167), sized(long("i"), 167))
		b.lays(9, nodeWith(0, 0, "", two))
		b.answers(Insert(b.m, root, sized(long("j"), 167)), want)
		b.aborts()
		b.is(9, nodeWith(0, 0, "", two))
		b.taken(10)
	}
}

// TestP14_2LevelsEnd: no page has a Level above 255; nothing was changed then.
func TestP14_2LevelsEnd(t *testing.T) {
	b := full8(t, 20)
	p := b.page(root)
	p.Level = 255
	b.lays(root, p)
	b.putsNot(root, link(long("i"), 9), api.ErrArg)
	b.untouched()
	b.settlesNot(Post{255, 8, 9, long("i")}, api.ErrArg)
	b.untouched()
	p.Level = 254
	b.lays(root, p)
	b.puts(root, link(long("i"), 9))
	if p := b.page(root); p.Level != 255 || len(p.Entries) != 2 {
		t.Error(p)
	}
	// Of another one than root nothing of the kind is asked.
	p.Level, p.High, p.Right = 255, "z", 5
	b.lays(9, p)
	b.puts(9, link(long("i"), 9), Post{Level: 256, Left: 9, Right: 12, Key: long("f")})
}
