package space

import (
	"slices"
	"strings"
	"testing"

	"concordance/api"
	"concordance/device"
	"concordance/mini"
	"concordance/page"
	"concordance/record"
)

// base is a store, and some changes of it that are under way.
type base struct {
	t *testing.T
	p mini.Plan
	d *device.Device
	s *mini.Store
	m *mini.Mini
}

func planOf(pages, frames int) mini.Plan {
	return mini.Plan{Half: 60, Slots: 2, Pages: pages, Frames: frames}
}

// empty has no page 0 yet.
func empty(t *testing.T, pages, frames int) *base {
	t.Helper()
	b := &base{t: t, p: planOf(pages, frames)}
	b.d, _ = device.New(b.p.Sectors())
	b.answers(mini.Format(b.d, b.p), api.OK)
	b.opens()
	return b
}

// opens the device, and begins.
func (b *base) opens() {
	b.t.Helper()
	s, _, e := mini.Open(b.d, b.p)
	if e != api.OK {
		b.t.Fatal("Open", e)
	}
	b.s = s
	b.answers(s.Checkpoint(""), api.OK)
	b.m = s.Begin()
}

// started has a page 0, which was committed.
func started(t *testing.T, pages, frames int) *base {
	t.Helper()
	b := empty(t, pages, frames)
	b.answers(Start(b.m), api.OK)
	b.commits()
	return b
}

// commits what is under way, and begins anew.
func (b *base) commits() {
	b.t.Helper()
	if _, e := b.m.Commit(record.Record{Kind: record.Change}); e != api.OK {
		b.t.Error("Commit", e)
	}
	if b.s.Room() < 4000 {
		b.answers(b.s.Checkpoint(""), api.OK)
	}
	b.m = b.s.Begin()
}

// aborts what is under way, and begins anew.
func (b *base) aborts() {
	b.m.Abort()
	b.m = b.s.Begin()
}

func (b *base) answers(e, want api.Errno) {
	b.t.Helper()
	if e != want {
		b.t.Errorf("%d, not %d", e, want)
	}
}

// number tells where a call answers another number, or another error.
func (b *base) number(n int, e api.Errno, want int, wantError api.Errno) {
	b.t.Helper()
	if n != want || e != wantError {
		b.t.Errorf("%d %d, not %d %d", n, e, want, wantError)
	}
}

func (b *base) gets(name string, want int) {
	b.t.Helper()
	n, e := Get(b.m, name)
	b.number(n, e, want, api.OK)
}

func (b *base) sets(name string, n int) {
	b.t.Helper()
	b.answers(Set(b.m, name, n), api.OK)
}

func (b *base) takes(want ...int) {
	b.t.Helper()
	for _, x := range want {
		n, e := Take(b.m)
		b.number(n, e, x, api.OK)
	}
}

func (b *base) gives(pages ...int) {
	b.t.Helper()
	for _, n := range pages {
		b.answers(Give(b.m, n), api.OK)
	}
}

func (b *base) unused(pages, want int) {
	b.t.Helper()
	n, e := Unused(b.m, pages)
	b.number(n, e, want, api.OK)
}

// page as it is in the changes.
func (b *base) page(n int) page.Page {
	b.t.Helper()
	p, e := b.m.Page(n)
	if e != api.OK {
		b.t.Errorf("Page %d: %d", n, e)
	}
	p.LSN = 0
	return p
}

// is tells where a page is otherwise.
func (b *base) is(n int, want page.Page) {
	b.t.Helper()
	if p := b.page(n); !same(p, want) {
		b.t.Errorf("page %d: %v, not %v", n, p, want)
	}
}

func same(p, q page.Page) bool {
	return p.LSN == q.LSN && p.Kind == q.Kind && p.Level == q.Level && p.Right == q.Right && p.High == q.High && slices.Equal(p.Entries, q.Entries)
}

// lays a page by hand, in the changes.
func (b *base) lays(n int, p page.Page) {
	b.t.Helper()
	b.page(n)
	b.answers(b.m.Set(n, p), api.OK)
}

// asked: was a page asked in the changes?
func (b *base) asked(n int) bool {
	return b.m.Set(n, page.Page{}) != api.ErrState
}

// untouched tells where a call has changed anything, or asked for a page, in
// changes in which nothing was done ahead of it.
func (b *base) untouched() {
	b.t.Helper()
	for n := range b.s.Pages() {
		if b.asked(n) {
			b.t.Error("asked for page", n)
		}
		if e := b.s.Evict(n); e == api.ErrPins {
			b.t.Error("pins page", n)
		}
	}
	if n, e := b.m.Commit(record.Record{Kind: record.Change}); n != 0 || e != api.OK {
		b.t.Error("Commit", n, e)
	}
	b.m = b.s.Begin()
}

// six bytes of a number below 256.
func six(n int) string {
	return "\x00\x00\x00\x00\x00" + string([]byte{byte(n)})
}

// laid lays a page's bytes on the device, beside the store.
func (b *base) laid(n int, bytes string) {
	at := b.p.Sectors() - 2*b.p.Pages + 2*n
	b.d.Write(at, bytes[:api.Sector])
	b.d.Write(at+1, bytes[api.Sector:])
	b.d.Sync()
}

// calls are all of them, with arguments that are right and such as aren't.
func calls() map[string]func(*mini.Mini) (int, api.Errno) {
	one := func(f func(*mini.Mini) api.Errno) func(*mini.Mini) (int, api.Errno) {
		return func(m *mini.Mini) (int, api.Errno) { return 0, f(m) }
	}
	long := strings.Repeat("n", 9)
	return map[string]func(*mini.Mini) (int, api.Errno){
		"Start":        one(Start),
		"Take":         Take,
		"Give":         one(func(m *mini.Mini) api.Errno { return Give(m, 1) }),
		"Give 0":       one(func(m *mini.Mini) api.Errno { return Give(m, 0) }),
		"Give 900":     one(func(m *mini.Mini) api.Errno { return Give(m, 900) }),
		"Next":         func(m *mini.Mini) (int, api.Errno) { return Next(m, "n") },
		"Next no name": func(m *mini.Mini) (int, api.Errno) { return Next(m, "") },
		"Next long":    func(m *mini.Mini) (int, api.Errno) { return Next(m, long) },
		"Get":          func(m *mini.Mini) (int, api.Errno) { return Get(m, "high") },
		"Get no name":  func(m *mini.Mini) (int, api.Errno) { return Get(m, "") },
		"Set":          one(func(m *mini.Mini) api.Errno { return Set(m, "n", 1) }),
		"Set no name":  one(func(m *mini.Mini) api.Errno { return Set(m, "", 1) }),
		"Set -1":       one(func(m *mini.Mini) api.Errno { return Set(m, "n", -1) }),
		"Unused":       func(m *mini.Mini) (int, api.Errno) { return Unused(m, 4) },
		"Unused -1":    func(m *mini.Mini) (int, api.Errno) { return Unused(m, -1) },
	}
}
