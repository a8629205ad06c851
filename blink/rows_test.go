package blink

import (
	"cmp"
	"slices"

	"concordance/page"
)

// place of a node in its row: its page, and the least key that it covers.
type place struct {
	at   int
	from string
	p    page.Page
}

// rows of a tree, those of its leaves first. They are gone through page by page,
// and it fails, where they aren't as the document says.
func (b *base) rows() [][]place {
	b.t.Helper()
	top := b.page(root)
	if top.High != "" || top.Right != 0 {
		b.t.Fatal("the root isn't alone in its row", top)
	}
	all := make([][]place, top.Level+1)
	seen := map[int]int{}
	for level, at := top.Level, root; level >= 0; level-- {
		all[level] = b.row(at, level, seen)
		if level > 0 {
			first := all[level][0].p.Entries[0]
			at = int(first.Value[0])<<8 | int(first.Value[1])
		}
	}
	for level := 1; level < len(all); level++ {
		b.leadsDown(all[level], all[level-1])
	}
	return all
}

// row of nodes by their Rights.
func (b *base) row(at, level int, seen map[int]int) []place {
	b.t.Helper()
	var l []place
	from := ""
	for {
		p := b.page(at)
		if seen[at]++; seen[at] > 1 || p.Kind != 3 || p.Level != level {
			b.t.Fatalf("level %d, page %d: %v", level, at, p)
		}
		l = append(l, place{at, from, p})
		for i, e := range p.Entries {
			if e.Key < from || p.High != "" && e.Key >= p.High || i > 0 && e.Key <= p.Entries[i-1].Key {
				b.t.Fatalf("level %d, page %d: %q is at the wrong place", level, at, e.Key)
			}
		}
		if p.High == "" && p.Right == 0 {
			return l
		}
		if p.High <= from || p.Right == 0 {
			b.t.Fatalf("level %d, page %d: %v", level, at, p)
		}
		at, from = p.Right, p.High
	}
}

// leadsDown: have a row's nodes entries for nodes of the one below alone, the
// first one for where each begins?
func (b *base) leadsDown(row, below []place) {
	b.t.Helper()
	for _, x := range row {
		if len(x.p.Entries) == 0 || x.p.Entries[0].Key != x.from {
			b.t.Fatalf("page %d: %v doesn't begin at %q", x.at, x.p, x.from)
		}
		for _, e := range x.p.Entries {
			child := func(y place) bool { return y.from == e.Key && link(e.Key, y.at) == e }
			if !slices.ContainsFunc(below, child) {
				b.t.Fatalf("page %d: %v is for no node", x.at, e)
			}
		}
	}
}

// missing: the Posts of all nodes for which none above has an entry, those of the
// lowest Level first.
func missing(rows [][]place) []Post {
	var l []Post
	for level := range len(rows) - 1 {
		for i, y := range rows[level] {
			told := func(x place) bool { return slices.Contains(x.p.Entries, link(y.from, y.at)) }
			if i > 0 && !slices.ContainsFunc(rows[level+1], told) {
				l = append(l, Post{Level: level + 1, Left: rows[level][i-1].at, Right: y.at, Key: y.from})
			}
		}
	}
	return l
}

// covering node of a row.
func covering(row []place, key string) (place, int) {
	for i, x := range row {
		if x.p.High == "" || key < x.p.High {
			return x, i
		}
	}
	return place{}, -1
}

// leads tells where a Seek of a key doesn't come to its node, or doesn't miss what
// it must, or misses what it can't.
func (b *base) leads(rows [][]place, key string, level int) {
	b.t.Helper()
	at, missed, e := Seek(b.m, root, key, level)
	want, i := covering(rows[level], key)
	if e != 0 || at != want.at {
		b.t.Fatalf("%q %d: %d %d, not %d", key, level, at, e, want.at)
	}
	all := missing(rows)
	for _, x := range missed {
		if !slices.Contains(all, x) || x.Key > key || x.Level <= level {
			b.t.Fatalf("%q %d misses %v of %v", key, level, x, all)
		}
	}
	if !slices.IsSortedFunc(missed, func(x, y Post) int { return cmp.Or(cmp.Compare(y.Level, x.Level), cmp.Compare(x.Key, y.Key)) }) {
		b.t.Fatalf("%q %d: %v", key, level, missed)
	}
	// It comes by a node for which there is no entry from the left one alone.
	if i > 0 {
		own := Post{Level: level + 1, Left: rows[level][i-1].at, Right: at, Key: want.from}
		if slices.Contains(all, own) != slices.Contains(missed, own) {
			b.t.Fatalf("%q %d: %v misses %v", key, level, missed, own)
		}
	}
}

// has tells where the leaves' entries aren't these, by their keys.
func (b *base) has(rows [][]place, want []page.Entry) {
	b.t.Helper()
	var l []page.Entry
	for _, x := range rows[0] {
		l = append(l, x.p.Entries...)
	}
	if !slices.Equal(l, want) {
		b.t.Fatalf("%v, not %v", l, want)
	}
}
