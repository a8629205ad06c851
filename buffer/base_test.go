package buffer

import (
	"fmt"
	"slices"
	"strings"
	"testing"

	"concordance/api"
	"concordance/bitmap"
	"concordance/device"
	"concordance/mini"
	"concordance/page"
	"concordance/record"
	"concordance/scan"
	"concordance/space"
)

// base is a store, and some changes of it that are under way.
type base struct {
	t *testing.T
	p mini.Plan
	d *device.Device
	s *mini.Store
	m *mini.Mini
}

// Of a base that was started: the page of flags, the buffer's root, and the first
// of the pages of Level 0 without entries that changes may wait for.
const (
	flagsAt  = 1
	bufferAt = 2
	leafAt   = 3
)

// without a buffer there are page 0 and the flags.
func without(t *testing.T, pages, frames int) *base {
	t.Helper()
	b := &base{t: t, p: mini.Plan{Half: 160, Slots: 2, Pages: pages, Frames: frames}}
	b.d, _ = device.New(b.p.Sectors())
	b.answers(mini.Format(b.d, b.p), api.OK)
	b.opens()
	b.answers(space.Start(b.m), api.OK)
	b.answers(bitmap.Start(b.m), api.OK)
	b.commits()
	return b
}

// started has a buffer, and so many leaves, of whose flags the Class is right.
func started(t *testing.T, pages, frames, leaves int) *base {
	t.Helper()
	b := without(t, pages, 16)
	b.answers(Start(b.m), api.OK)
	for i := range leaves {
		if n, e := space.Take(b.m); n != leafAt+i || e != api.OK {
			t.Fatal("Take", n, e)
		}
		b.flags(leafAt+i, bitmap.Flags{Class: 3})
		b.commits()
	}
	b.commits()
	b.reopens(frames)
	return b
}

// opens the device, and begins.
func (b *base) opens() {
	b.t.Helper()
	s, _, e := mini.Open(b.d, b.p)
	if e != api.OK {
		b.t.Fatal("Open", e)
	}
	b.s = s
	b.answers(s.Checkpoint(""), api.OK)
	b.m = s.Begin()
}

// reopens the device with so many frames.
func (b *base) reopens(frames int) {
	b.t.Helper()
	b.m.Abort()
	b.answers(b.s.Checkpoint(""), api.OK)
	b.p.Frames = frames
	b.opens()
}

// commits what is under way, and begins anew.
func (b *base) commits() {
	b.t.Helper()
	if _, e := b.m.Commit(record.Record{Kind: record.Change}); e != api.OK {
		b.t.Fatal("Commit", e)
	}
	if b.s.Room() < 16000 {
		b.answers(b.s.Checkpoint(""), api.OK)
	}
	b.m = b.s.Begin()
}

// aborts what is under way, and begins anew.
func (b *base) aborts() {
	b.m.Abort()
	b.m = b.s.Begin()
}

func (b *base) answers(e, want api.Errno) {
	b.t.Helper()
	if e != want {
		b.t.Errorf("%d, not %d", e, want)
	}
}

// page as it is in the changes; it isn't asked any more then, where it wasn't ahead.
func (b *base) page(n int) page.Page {
	b.t.Helper()
	was := b.asked(n)
	p, e := b.m.Page(n)
	if e != api.OK {
		b.t.Fatalf("Page %d: %d", n, e)
	}
	if !was {
		b.m.Leave(n)
	}
	p.LSN = 0
	return p
}

// asked: was a page asked in the changes?
func (b *base) asked(n int) bool {
	return b.m.Set(n, page.Page{}) != api.ErrState
}

// lays a page by hand, and commits it.
func (b *base) lays(n int, p page.Page) {
	b.t.Helper()
	b.m.Page(n)
	b.answers(b.m.Set(n, p), api.OK)
	b.commits()
}

// is tells where a page is otherwise.
func (b *base) is(n int, want page.Page) {
	b.t.Helper()
	if p := b.page(n); !same(p, want) {
		b.t.Errorf("page %d: %v, not %v", n, p, want)
	}
}

func same(p, q page.Page) bool {
	return p.LSN == q.LSN && p.Kind == q.Kind && p.Level == q.Level && p.Right == q.Right && p.High == q.High && slices.Equal(p.Entries, q.Entries)
}

// untouched tells where a call has changed anything, or asked for a page, in
// changes in which nothing was done ahead of it.
func (b *base) untouched() {
	b.t.Helper()
	for n := range b.s.Pages() {
		if b.asked(n) {
			b.t.Error("asked for page", n)
		}
		if e := b.s.Evict(n); e == api.ErrPins {
			b.t.Error("pins page", n)
		}
	}
	if n, e := b.m.Commit(record.Record{Kind: record.Change}); n != 0 || e != api.OK {
		b.t.Error("Commit", n, e)
	}
	b.m = b.s.Begin()
}

// laid lays a page's bytes on the device, beside the store.
func (b *base) laid(n int, bytes string) {
	at := b.p.Sectors() - 2*b.p.Pages + 2*n
	b.d.Write(at, bytes[:api.Sector])
	b.d.Write(at+1, bytes[api.Sector:])
	b.d.Sync()
}

// leaf has such entries.
func leaf(l ...page.Entry) page.Page {
	return page.Page{Kind: 3, Entries: l}
}

func plain(key string) page.Entry {
	return page.Entry{Key: key}
}

func signed(key string) page.Entry {
	return page.Entry{Key: key, Marked: true}
}

// long key of so many bytes.
func long(s string, bytes int) string {
	return s + strings.Repeat("_", bytes-len(s))
}

// raw entries of the buffer, as layer 15 tells them.
func (b *base) raw() []page.Entry {
	b.t.Helper()
	at, e := space.Get(b.m, "buffer")
	b.answers(e, api.OK)
	var all []page.Entry
	for e := range scan.All(b.m, at) {
		all = append(all, e)
	}
	return all
}

func (b *base) flags(n int, f bitmap.Flags) {
	b.t.Helper()
	b.answers(bitmap.Set(b.m, n, f), api.OK)
}

func (b *base) hasFlags(n int, want bitmap.Flags) {
	b.t.Helper()
	if f, e := bitmap.Get(b.m, n); f != want || e != api.OK {
		b.t.Errorf("%d: %v %d, not %v", n, f, e, want)
	}
}

func (b *base) adds(index, n int, l ...Op) {
	b.t.Helper()
	for _, x := range l {
		if e := Add(b.m, index, n, x, 1000); e != api.OK {
			b.t.Fatalf("Add %d %d %v: %d", index, n, x, e)
		}
	}
}

func (b *base) addsNot(index, n int, x Op, most int, want api.Errno) {
	b.t.Helper()
	if e := Add(b.m, index, n, x, most); e != want {
		b.t.Errorf("Add %d %d %v %d: %d, not %d", index, n, x, most, e, want)
	}
}

func (b *base) lists(index, n int, want ...Op) {
	b.t.Helper()
	if l, e := List(b.m, index, n); !slices.Equal(l, want) || e != api.OK {
		b.t.Errorf("%d %d: %.300q %d, not %.300q", index, n, fmt.Sprint(l), e, fmt.Sprint(want))
	}
}

// number tells where a call answers another number, or another error.
func (b *base) number(n int, e api.Errno, want int, wantError api.Errno) {
	b.t.Helper()
	if n != want || e != wantError {
		b.t.Errorf("%d %d, not %d %d", n, e, want, wantError)
	}
}

func (b *base) merges(index, n, want int) {
	b.t.Helper()
	k, e := Merge(b.m, index, n)
	b.number(k, e, want, api.OK)
}

func (b *base) mergesNot(index, n int, want api.Errno) {
	b.t.Helper()
	k, e := Merge(b.m, index, n)
	b.number(k, e, 0, want)
}

func (b *base) drops(index, n, want int) {
	b.t.Helper()
	k, e := Drop(b.m, index, n)
	b.number(k, e, want, api.OK)
}

func (b *base) pending(want int) {
	b.t.Helper()
	n, e := Pending(b.m)
	b.number(n, e, want, api.OK)
}

func (b *base) first(index, n int) {
	b.t.Helper()
	if i, p, any, e := First(b.m); i != index || p != n || !any || e != api.OK {
		b.t.Errorf("%d %d %t %d, not %d %d", i, p, any, e, index, n)
	}
}

// firstNone: nothing waits, and want is the error.
func (b *base) firstNone(want api.Errno) {
	b.t.Helper()
	if i, p, any, e := First(b.m); i != 0 || p != 0 || any || e != want {
		b.t.Errorf("%d %d %t %d, not %d", i, p, any, e, want)
	}
}
