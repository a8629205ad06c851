package scan

import (
	"slices"
	"strings"
	"testing"

	"concordance/api"
	"concordance/blink"
	"concordance/device"
	"concordance/mini"
	"concordance/page"
	"concordance/record"
	"concordance/space"
)

// base is a store with a tree, whose root is page 1, and some changes of it that
// are under way.
type base struct {
	t *testing.T
	p mini.Plan
	d *device.Device
	s *mini.Store
	m *mini.Mini
}

const root = 1

// started has a tree without entries, which was committed.
func started(t *testing.T, pages, frames int) *base {
	t.Helper()
	b := &base{t: t, p: mini.Plan{Half: 120, Slots: 2, Pages: pages, Frames: 4}}
	b.d, _ = device.New(b.p.Sectors())
	b.answers(mini.Format(b.d, b.p), api.OK)
	b.opens()
	b.answers(space.Start(b.m), api.OK)
	if n, e := blink.Create(b.m); n != root || e != api.OK {
		t.Fatal("Create", n, e)
	}
	b.commits()
	b.reopens(frames)
	return b
}

// opens the device, and begins.
func (b *base) opens() {
	b.t.Helper()
	s, _, e := mini.Open(b.d, b.p)
	if e != api.OK {
		b.t.Fatal("Open", e)
	}
	b.s = s
	b.answers(s.Checkpoint(""), api.OK)
	b.m = s.Begin()
}

// reopens the device with so many frames.
func (b *base) reopens(frames int) {
	b.t.Helper()
	b.m.Abort()
	b.answers(b.s.Checkpoint(""), api.OK)
	b.p.Frames = frames
	b.opens()
}

// commits what is under way, and begins anew.
func (b *base) commits() {
	b.t.Helper()
	if _, e := b.m.Commit(record.Record{Kind: record.Change}); e != api.OK {
		b.t.Fatal("Commit", e)
	}
	if b.s.Room() < 14000 {
		b.answers(b.s.Checkpoint(""), api.OK)
	}
	b.m = b.s.Begin()
}

// aborts what is under way, and begins anew.
func (b *base) aborts() {
	b.m.Abort()
	b.m = b.s.Begin()
}

func (b *base) answers(e, want api.Errno) {
	b.t.Helper()
	if e != want {
		b.t.Errorf("%d, not %d", e, want)
	}
}

// page as it is in the changes; it isn't asked any more then, where it wasn't ahead.
func (b *base) page(n int) page.Page {
	b.t.Helper()
	was := b.asked(n)
	p, e := b.m.Page(n)
	if e != api.OK {
		b.t.Fatalf("Page %d: %d", n, e)
	}
	if !was {
		b.m.Leave(n)
	}
	return p
}

// asked: was a page asked in the changes?
func (b *base) asked(n int) bool {
	return b.m.Set(n, page.Page{}) != api.ErrState
}

func same(p, q page.Page) bool {
	return p.LSN == q.LSN && p.Kind == q.Kind && p.Level == q.Level && p.Right == q.Right && p.High == q.High && slices.Equal(p.Entries, q.Entries)
}

// lays a page by hand, and commits it.
func (b *base) lays(n int, p page.Page) {
	b.t.Helper()
	b.m.Page(n)
	b.answers(b.m.Set(n, p), api.OK)
	b.commits()
}

// untouched tells where a call has changed anything, or asked for a page, in
// changes in which nothing was done ahead of it.
func (b *base) untouched() {
	b.t.Helper()
	for n := range b.s.Pages() {
		if b.asked(n) {
			b.t.Error("asked for page", n)
		}
		if e := b.s.Evict(n); e == api.ErrPins {
			b.t.Error("pins page", n)
		}
	}
	if n, e := b.m.Commit(record.Record{Kind: record.Change}); n != 0 || e != api.OK {
		b.t.Error("Commit", n, e)
	}
	b.m = b.s.Begin()
}

// laid lays a page's bytes on the device, beside the store.
func (b *base) laid(n int, bytes string) {
	at := b.p.Sectors() - 2*b.p.Pages + 2*n
	b.d.Write(at, bytes[:api.Sector])
	b.d.Write(at+1, bytes[api.Sector:])
	b.d.Sync()
}

// leaf has entries of these keys.
func leaf(right int, high string, keys ...string) page.Page {
	p := page.Page{Kind: 3, Right: right, High: high}
	for _, key := range keys {
		p.Entries = append(p.Entries, page.Entry{Key: key})
	}
	return p
}

// link to a child from a key on.
func link(key string, child int) page.Entry {
	return page.Entry{Key: key, Value: string([]byte{byte(child >> 8), byte(child)})}
}

// above is a node of a Level above 0.
func above(level, right int, high string, l ...page.Entry) page.Page {
	return page.Page{Kind: 3, Level: level, Right: right, High: high, Entries: l}
}

// sized entry takes so many bytes of a page (layer 5's Size).
func sized(key string, size int) page.Entry {
	return page.Entry{Key: key, Value: strings.Repeat("v", size-3-len(key))}
}

// long key of 64 bytes.
func long(s string) string {
	return s + strings.Repeat("_", 64-len(s))
}

// puts an entry into its leaf; what is to be posted is forgotten.
func (b *base) puts(e page.Entry) []blink.Post {
	b.t.Helper()
	at, _, x := blink.Seek(b.m, root, e.Key, 0)
	b.answers(x, api.OK)
	posts, x := blink.Put(b.m, root, at, e)
	if x != api.OK {
		b.t.Fatalf("Put %v: %d", e, x)
	}
	return posts
}

// settles all that is missed by Seeks of these keys.
func (b *base) settles(keys ...string) {
	b.t.Helper()
	for _, key := range keys {
		_, missed, e := blink.Seek(b.m, root, key, 0)
		for len(missed) > 0 && e == api.OK {
			var more []blink.Post
			more, e = blink.Settle(b.m, root, missed[0])
			missed = append(missed[1:], more...)
		}
		b.answers(e, api.OK)
	}
}

func (b *base) inserts(l ...page.Entry) {
	b.t.Helper()
	for _, e := range l {
		if x := blink.Insert(b.m, root, e); x != api.OK {
			b.t.Fatalf("Insert %v: %d", e, x)
		}
	}
}

func (b *base) removes(keys ...string) {
	b.t.Helper()
	for _, key := range keys {
		if x := blink.Remove(b.m, root, key); x != api.OK {
			b.t.Fatalf("Remove %q: %d", key, x)
		}
	}
}

// place of a node in its row: its page, the least key that it covers.
type place struct {
	at   int
	from string
	p    page.Page
}

// nodes of a tree, those of its leaves first, each Level's in their row.
func (b *base) nodes() [][]place {
	b.t.Helper()
	top := b.page(root)
	all := make([][]place, top.Level+1)
	for level, at := top.Level, root; level >= 0; level-- {
		all[level] = b.rightward(at)
		if level > 0 {
			first := all[level][0].p.Entries[0]
			at = int(first.Value[0])<<8 | int(first.Value[1])
		}
	}
	return all
}

func (b *base) rightward(at int) []place {
	b.t.Helper()
	var l []place
	for from := ""; ; {
		p := b.page(at)
		l = append(l, place{at, from, p})
		if p.High == "" {
			return l
		}
		at, from = p.Right, p.High
	}
}

func (b *base) leaves() []place {
	b.t.Helper()
	return b.nodes()[0]
}

// entries of all leaves.
func (b *base) entries() []page.Entry {
	b.t.Helper()
	var l []page.Entry
	for _, x := range b.leaves() {
		l = append(l, x.p.Entries...)
	}
	return l
}

// between two keys, as a cursor tells them.
func between(l []page.Entry, from, to string) []page.Entry {
	var told []page.Entry
	for _, e := range l {
		if e.Key >= from && (to == "" || e.Key < to) {
			told = append(told, e)
		}
	}
	return told
}

// keysOf entries.
func keysOf(l []page.Entry) []string {
	var keys []string
	for _, e := range l {
		keys = append(keys, e.Key)
	}
	return keys
}

// tells: a Step answers these keys, and whether all were told.
func (b *base) tells(c *Cursor, over bool, keys ...string) {
	b.t.Helper()
	l, o, e := c.Step(b.m, nil)
	if !slices.Equal(keysOf(l), keys) || o != over || e != api.OK {
		b.t.Errorf("%q %t %d, not %q %t", keysOf(l), o, e, keys, over)
	}
}

// tellsNot: a Step answers another error, or anything beside it.
func (b *base) tellsNot(c *Cursor, ready func(*mini.Mini, int) api.Errno, want api.Errno) {
	b.t.Helper()
	if l, over, e := c.Step(b.m, ready); l != nil || over || e != want {
		b.t.Errorf("%v %t %d, not %d", l, over, e, want)
	}
}

// whole: all that a cursor tells till it is over, in these changes, and the leaves
// of which ready was asked; it fails, where there are more Steps than that.
func (b *base) whole(c *Cursor, most int) ([]page.Entry, []int) {
	b.t.Helper()
	var l []page.Entry
	var asked []int
	ready := func(m *mini.Mini, n int) api.Errno {
		if m != b.m {
			b.t.Error("other changes")
		}
		asked = append(asked, n)
		return api.OK
	}
	for range most {
		more, over, e := c.Step(b.m, ready)
		if e != api.OK {
			b.t.Fatal(e)
		}
		l = append(l, more...)
		if over {
			return l, asked
		}
	}
	b.t.Fatal("it goes on and on")
	return nil, nil
}
