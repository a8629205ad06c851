package blink

import (
	"slices"
	"strings"
	"testing"

	"concordance/api"
	"concordance/device"
	"concordance/mini"
	"concordance/page"
	"concordance/record"
	"concordance/space"
)

// base is a store with a tree, whose root is page 1, and some changes of it that
// are under way.
type base struct {
	t *testing.T
	p mini.Plan
	d *device.Device
	s *mini.Store
	m *mini.Mini
}

const root = 1

// empty has no page 0 yet.
func empty(t *testing.T, pages, frames int) *base {
	t.Helper()
	b := &base{t: t, p: mini.Plan{Half: 120, Slots: 2, Pages: pages, Frames: frames}}
	b.d, _ = device.New(b.p.Sectors())
	b.answers(mini.Format(b.d, b.p), api.OK)
	b.opens()
	return b
}

// opens the device, and begins.
func (b *base) opens() {
	b.t.Helper()
	s, _, e := mini.Open(b.d, b.p)
	if e != api.OK {
		b.t.Fatal("Open", e)
	}
	b.s = s
	b.answers(s.Checkpoint(""), api.OK)
	b.m = s.Begin()
}

// reopens the device with so many frames.
func (b *base) reopens(frames int) {
	b.t.Helper()
	b.m.Abort()
	b.answers(b.s.Checkpoint(""), api.OK)
	b.p.Frames = frames
	b.opens()
}

// started has a tree without entries, which was committed.
func started(t *testing.T, pages, frames int) *base {
	t.Helper()
	b := empty(t, pages, frames)
	b.answers(space.Start(b.m), api.OK)
	if n, e := Create(b.m); n != root || e != api.OK {
		t.Fatal("Create", n, e)
	}
	b.commits()
	return b
}

// commits what is under way, and begins anew.
func (b *base) commits() {
	b.t.Helper()
	if _, e := b.m.Commit(record.Record{Kind: record.Change}); e != api.OK {
		b.t.Fatal("Commit", e)
	}
	if b.s.Room() < 14000 {
		b.answers(b.s.Checkpoint(""), api.OK)
	}
	b.m = b.s.Begin()
}

// aborts what is under way, and begins anew.
func (b *base) aborts() {
	b.m.Abort()
	b.m = b.s.Begin()
}

func (b *base) answers(e, want api.Errno) {
	b.t.Helper()
	if e != want {
		b.t.Errorf("%d, not %d", e, want)
	}
}

// page as it is in the changes; it isn't asked any more then, where it wasn't ahead.
func (b *base) page(n int) page.Page {
	b.t.Helper()
	was := b.asked(n)
	p, e := b.m.Page(n)
	if e != api.OK {
		b.t.Fatalf("Page %d: %d", n, e)
	}
	if !was {
		b.m.Leave(n)
	}
	p.LSN = 0
	return p
}

// asked: was a page asked in the changes?
func (b *base) asked(n int) bool {
	return b.m.Set(n, page.Page{}) != api.ErrState
}

// is tells where a page is otherwise.
func (b *base) is(n int, want page.Page) {
	b.t.Helper()
	if p := b.page(n); !same(p, want) {
		b.t.Errorf("page %d: %v, not %v", n, p, want)
	}
}

func same(p, q page.Page) bool {
	return p.LSN == q.LSN && p.Kind == q.Kind && p.Level == q.Level && p.Right == q.Right && p.High == q.High && slices.Equal(p.Entries, q.Entries)
}

// lays a page by hand, and commits it.
func (b *base) lays(n int, p page.Page) {
	b.t.Helper()
	b.m.Page(n)
	b.answers(b.m.Set(n, p), api.OK)
	b.commits()
}

// high: so many pages were ever taken.
func (b *base) high(n int) {
	b.t.Helper()
	b.answers(space.Set(b.m, "high", n), api.OK)
	b.commits()
}

// untouched tells where a call has changed anything, or asked for a page, in
// changes in which nothing was done ahead of it.
func (b *base) untouched() {
	b.t.Helper()
	for n := range b.s.Pages() {
		if b.asked(n) {
			b.t.Error("asked for page", n)
		}
		if e := b.s.Evict(n); e == api.ErrPins {
			b.t.Error("pins page", n)
		}
	}
	if n, e := b.m.Commit(record.Record{Kind: record.Change}); n != 0 || e != api.OK {
		b.t.Error("Commit", n, e)
	}
	b.m = b.s.Begin()
}

// laid lays a page's bytes on the device, beside the store.
func (b *base) laid(n int, bytes string) {
	at := b.p.Sectors() - 2*b.p.Pages + 2*n
	b.d.Write(at, bytes[:api.Sector])
	b.d.Write(at+1, bytes[api.Sector:])
	b.d.Sync()
}

// leaf has entries of these keys.
func leaf(right int, high string, keys ...string) page.Page {
	p := page.Page{Kind: 3, Right: right, High: high}
	for _, key := range keys {
		p.Entries = append(p.Entries, page.Entry{Key: key})
	}
	return p
}

// link to a child from a key on.
func link(key string, child int) page.Entry {
	return page.Entry{Key: key, Value: string([]byte{byte(child >> 8), byte(child)})}
}

// above is a node of a Level above 0.
func above(level, right int, high string, l ...page.Entry) page.Page {
	return page.Page{Kind: 3, Level: level, Right: right, High: high, Entries: l}
}

// sized entry takes so many bytes of a page (layer 5's Size).
func sized(key string, size int) page.Entry {
	return page.Entry{Key: key, Value: strings.Repeat("v", size-3-len(key))}
}

// long key of 64 bytes.
func long(s string) string {
	return s + strings.Repeat("_", 64-len(s))
}

func (b *base) visits(at int, key string, level int, want Step) {
	b.t.Helper()
	s, e := Visit(b.m, at, key, level)
	if e != api.OK || s.Next != want.Next || s.Here != want.Here || !slices.Equal(s.Missed, want.Missed) {
		b.t.Errorf("%d %q %d: %v %d, not %v", at, key, level, s, e, want)
	}
}

// refuses tells where Visit answers another error, or anything beside it.
func (b *base) refuses(at int, key string, level int, want api.Errno) {
	b.t.Helper()
	s, e := Visit(b.m, at, key, level)
	if e != want || s.Next != 0 || s.Here || s.Missed != nil {
		b.t.Errorf("%d %q %d: %v %d, not %d", at, key, level, s, e, want)
	}
}

func (b *base) seeks(key string, level, want int, missed ...Post) {
	b.t.Helper()
	at, l, e := Seek(b.m, root, key, level)
	if at != want || e != api.OK || !slices.Equal(l, missed) {
		b.t.Errorf("%q %d: %d %v %d, not %d %v", key, level, at, l, e, want, missed)
	}
}

// seeksNot tells where Seek answers another error, or anything beside it.
func (b *base) seeksNot(at int, key string, level int, want api.Errno) {
	b.t.Helper()
	n, l, e := Seek(b.m, at, key, level)
	if n != 0 || l != nil || e != want {
		b.t.Errorf("%d %q %d: %d %v %d, not %d", at, key, level, n, l, e, want)
	}
}

func (b *base) puts(at int, e page.Entry, want ...Post) {
	b.t.Helper()
	l, x := Put(b.m, root, at, e)
	if x != api.OK || !slices.Equal(l, want) {
		b.t.Errorf("%d %v: %v %d, not %v", at, e, l, x, want)
	}
}

func (b *base) putsNot(at int, e page.Entry, want api.Errno) {
	b.t.Helper()
	if l, x := Put(b.m, root, at, e); x != want || l != nil {
		b.t.Errorf("%d %v: %v %d, not %d", at, e, l, x, want)
	}
}

func (b *base) settles(x Post, want ...Post) {
	b.t.Helper()
	l, e := Settle(b.m, root, x)
	if e != api.OK || !slices.Equal(l, want) {
		b.t.Errorf("%v: %v %d, not %v", x, l, e, want)
	}
}

func (b *base) settlesNot(x Post, want api.Errno) {
	b.t.Helper()
	if l, e := Settle(b.m, root, x); e != want || l != nil {
		b.t.Errorf("%v: %v %d, not %d", x, l, e, want)
	}
}

func (b *base) inserts(l ...page.Entry) {
	b.t.Helper()
	for _, e := range l {
		if x := Insert(b.m, root, e); x != api.OK {
			b.t.Fatalf("Insert %v: %d", e, x)
		}
	}
}

func (b *base) gets(want page.Entry) {
	b.t.Helper()
	if e, there, x := Get(b.m, root, want.Key); e != want || !there || x != api.OK {
		b.t.Errorf("%v %t %d, not %v", e, there, x, want)
	}
}

// getsNone: nothing is there, and want is the error.
func (b *base) getsNone(key string, want api.Errno) {
	b.t.Helper()
	if e, there, x := Get(b.m, root, key); e != (page.Entry{}) || there || x != want {
		b.t.Errorf("%q: %v %t %d, not %d", key, e, there, x, want)
	}
}
