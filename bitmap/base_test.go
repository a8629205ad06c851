package bitmap

import (
	"slices"
	"strings"
	"testing"

	"concordance/api"
	"concordance/device"
	"concordance/mini"
	"concordance/page"
	"concordance/record"
	"concordance/space"
)

// base is a store, and some changes of it that are under way.
type base struct {
	t *testing.T
	p mini.Plan
	d *device.Device
	s *mini.Store
	m *mini.Mini
}

// flagsAt is the page of flags of a base that was started.
const flagsAt = 1

// empty has no page 0 yet.
func empty(t *testing.T, pages, frames int) *base {
	t.Helper()
	b := &base{t: t, p: mini.Plan{Half: 60, Slots: 2, Pages: pages, Frames: frames}}
	b.d, _ = device.New(b.p.Sectors())
	b.answers(mini.Format(b.d, b.p), api.OK)
	b.opens()
	return b
}

// opens the device, and begins.
func (b *base) opens() {
	b.t.Helper()
	s, _, e := mini.Open(b.d, b.p)
	if e != api.OK {
		b.t.Fatal("Open", e)
	}
	b.s = s
	b.answers(s.Checkpoint(""), api.OK)
	b.m = s.Begin()
}

// without flags there is a page 0 alone, which was committed.
func without(t *testing.T, pages, frames int) *base {
	t.Helper()
	b := empty(t, pages, frames)
	b.answers(space.Start(b.m), api.OK)
	b.commits()
	return b
}

// started has a page of flags, too.
func started(t *testing.T, pages, frames int) *base {
	t.Helper()
	b := without(t, pages, frames)
	b.answers(Start(b.m), api.OK)
	b.commits()
	return b
}

// commits what is under way, and begins anew.
func (b *base) commits() {
	b.t.Helper()
	if _, e := b.m.Commit(record.Record{Kind: record.Change}); e != api.OK {
		b.t.Error("Commit", e)
	}
	if b.s.Room() < 4000 {
		b.answers(b.s.Checkpoint(""), api.OK)
	}
	b.m = b.s.Begin()
}

// aborts what is under way, and begins anew.
func (b *base) aborts() {
	b.m.Abort()
	b.m = b.s.Begin()
}

func (b *base) answers(e, want api.Errno) {
	b.t.Helper()
	if e != want {
		b.t.Errorf("%d, not %d", e, want)
	}
}

func (b *base) gets(n int, want Flags) {
	b.t.Helper()
	if f, e := Get(b.m, n); f != want || e != api.OK {
		b.t.Errorf("%d: %v %d, not %v", n, f, e, want)
	}
}

// getsNot tells where Get answers another error, or anything beside it.
func (b *base) getsNot(n int, want api.Errno) {
	b.t.Helper()
	if f, e := Get(b.m, n); f != (Flags{}) || e != want {
		b.t.Errorf("%d: %v %d, not %d", n, f, e, want)
	}
}

func (b *base) sets(n int, f Flags) {
	b.t.Helper()
	if e := Set(b.m, n, f); e != api.OK {
		b.t.Errorf("%d %v: %d", n, f, e)
	}
}

// names a page of flags by hand.
func (b *base) names(n int) {
	b.t.Helper()
	b.answers(space.Set(b.m, "bits", n), api.OK)
	b.commits()
}

// page as it is in the changes; it isn't asked any more then, where it wasn't ahead.
func (b *base) page(n int) page.Page {
	b.t.Helper()
	was := b.asked(n)
	p, e := b.m.Page(n)
	if e != api.OK {
		b.t.Fatalf("Page %d: %d", n, e)
	}
	if !was {
		b.m.Leave(n)
	}
	p.LSN = 0
	return p
}

// lays a page by hand, and commits it.
func (b *base) lays(n int, p page.Page) {
	b.t.Helper()
	b.m.Page(n)
	b.answers(b.m.Set(n, p), api.OK)
	b.commits()
}

// is tells where a page is otherwise.
func (b *base) is(n int, want page.Page) {
	b.t.Helper()
	p := b.page(n)
	same := p.Kind == want.Kind && p.Level == want.Level && p.Right == want.Right && p.High == want.High && slices.Equal(p.Entries, want.Entries)
	if !same {
		b.t.Errorf("page %d: %v, not %v", n, p, want)
	}
}

// asked: was a page asked in the changes?
func (b *base) asked(n int) bool {
	return b.m.Set(n, page.Page{}) != api.ErrState
}

// untouched tells where a call has changed anything, or asked for a page, in
// changes in which nothing was done ahead of it.
func (b *base) untouched() {
	b.t.Helper()
	for n := range b.s.Pages() {
		if b.asked(n) {
			b.t.Error("asked for page", n)
		}
		if e := b.s.Evict(n); e == api.ErrPins {
			b.t.Error("pins page", n)
		}
	}
	if n, e := b.m.Commit(record.Record{Kind: record.Change}); n != 0 || e != api.OK {
		b.t.Error("Commit", n, e)
	}
	b.m = b.s.Begin()
}

// laid lays a page's bytes on the device, beside the store.
func (b *base) laid(n int, bytes string) {
	at := b.p.Sectors() - 2*b.p.Pages + 2*n
	b.d.Write(at, bytes[:api.Sector])
	b.d.Write(at+1, bytes[api.Sector:])
	b.d.Sync()
}

// values has entries of these values, as a page of flags has.
func values(l ...string) page.Page {
	p := page.Page{Kind: 4}
	for i, value := range l {
		p.Entries = append(p.Entries, page.Entry{Key: string([]byte{byte(i)}), Value: value})
	}
	return p
}

// noughts: a value of so many bytes.
func noughts(n int) string {
	return strings.Repeat("\x00", n)
}

// all flags that a page can have, by their four bits as the document says them.
func all() []Flags {
	var l []Flags
	for i := range 16 {
		l = append(l, Flags{Class: i % 4, Buffered: i%8 >= 4, Closed: i >= 8})
	}
	return l
}
