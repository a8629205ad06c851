package index

import (
	"fmt"
	"slices"
	"strings"
	"testing"

	"concordance/api"
	"concordance/bitmap"
	"concordance/blink"
	"concordance/buffer"
	"concordance/device"
	"concordance/mini"
	"concordance/page"
	"concordance/record"
	"concordance/space"
)

// base is a store with an index, and some changes that are under way.
type base struct {
	t *testing.T
	p mini.Plan
	d *device.Device
	s *mini.Store
	m *mini.Mini
	x Index
}

// Of a base: the page of flags, the root of the buffer, and that of the index.
const (
	flagsAt  = 1
	bufferAt = 2
	rootAt   = 3
)

const id = 7 // of the index

func yes(int) bool { return true }

func no(int) bool { return false }

// only some pages are held.
func only(l ...int) func(int) bool {
	return func(n int) bool { return slices.Contains(l, n) }
}

// empty has no page 0 yet.
func empty(t *testing.T, pages, frames int) *base {
	t.Helper()
	b := &base{t: t, p: mini.Plan{Half: 160, Slots: 2, Pages: pages, Frames: frames}}
	b.d, _ = device.New(b.p.Sectors())
	b.answers(mini.Format(b.d, b.p), api.OK)
	b.opens()
	return b
}

// started has an index without entries, which was committed.
func started(t *testing.T, pages, frames int, waits bool) *base {
	t.Helper()
	b := empty(t, pages, max(frames, 8))
	for _, start := range []func(*mini.Mini) api.Errno{space.Start, bitmap.Start, buffer.Start} {
		b.answers(start(b.m), api.OK)
	}
	if n, e := blink.Create(b.m); n != rootAt || e != api.OK {
		t.Fatal("Create", n, e)
	}
	b.x = Index{ID: id, Root: rootAt, Waits: waits}
	b.commits()
	b.reopens(frames)
	return b
}

// opens the device, and begins.
func (b *base) opens() {
	b.t.Helper()
	s, _, e := mini.Open(b.d, b.p)
	if e != api.OK {
		b.t.Fatal("Open", e)
	}
	b.s = s
	b.answers(s.Checkpoint(""), api.OK)
	b.m = s.Begin()
}

// reopens the device with so many frames.
func (b *base) reopens(frames int) {
	b.t.Helper()
	b.m.Abort()
	b.answers(b.s.Checkpoint(""), api.OK)
	b.p.Frames = frames
	b.opens()
}

// commits what is under way, and begins anew.
func (b *base) commits() {
	b.t.Helper()
	if _, e := b.m.Commit(record.Record{Kind: record.Change}); e != api.OK {
		b.t.Fatal("Commit", e)
	}
	if b.s.Room() < 16000 {
		b.answers(b.s.Checkpoint(""), api.OK)
	}
	b.m = b.s.Begin()
}

// aborts what is under way, and begins anew.
func (b *base) aborts() {
	b.m.Abort()
	b.m = b.s.Begin()
}

func (b *base) answers(e, want api.Errno) {
	b.t.Helper()
	if e != want {
		b.t.Errorf("%d, not %d", e, want)
	}
}

// page as it is in the changes; it isn't asked any more then, where it wasn't ahead.
func (b *base) page(n int) page.Page {
	b.t.Helper()
	was := b.asked(n)
	p, e := b.m.Page(n)
	if e != api.OK {
		b.t.Fatalf("Page %d: %d", n, e)
	}
	if !was {
		b.m.Leave(n)
	}
	p.LSN = 0
	return p
}

// asked: was a page asked in the changes?
func (b *base) asked(n int) bool {
	return b.m.Set(n, page.Page{}) != api.ErrState
}

// lays a page by hand, and commits it.
func (b *base) lays(n int, p page.Page) {
	b.t.Helper()
	b.m.Page(n)
	b.answers(b.m.Set(n, p), api.OK)
	b.commits()
}

// is tells where a page is otherwise.
func (b *base) is(n int, want page.Page) {
	b.t.Helper()
	if p := b.page(n); !same(p, want) {
		b.t.Errorf("page %d: %v, not %v", n, p, want)
	}
}

func same(p, q page.Page) bool {
	return p.LSN == q.LSN && p.Kind == q.Kind && p.Level == q.Level && p.Right == q.Right && p.High == q.High && slices.Equal(p.Entries, q.Entries)
}

// untouched tells where a call has changed anything, or asked for a page, in
// changes in which nothing was done ahead of it.
func (b *base) untouched() {
	b.t.Helper()
	for n := range b.s.Pages() {
		if b.asked(n) {
			b.t.Error("asked for page", n)
		}
		if e := b.s.Evict(n); e == api.ErrPins {
			b.t.Error("pins page", n)
		}
	}
	if n, e := b.m.Commit(record.Record{Kind: record.Change}); n != 0 || e != api.OK {
		b.t.Error("Commit", n, e)
	}
	b.m = b.s.Begin()
}

// laid lays a page's bytes on the device, beside the store.
func (b *base) laid(n int, bytes string) {
	at := b.p.Sectors() - 2*b.p.Pages + 2*n
	b.d.Write(at, bytes[:api.Sector])
	b.d.Write(at+1, bytes[api.Sector:])
	b.d.Sync()
}

func plain(key string) page.Entry {
	return page.Entry{Key: key}
}

func signed(key string) page.Entry {
	return page.Entry{Key: key, Marked: true}
}

// long key of 64 bytes.
func long(s string) string {
	return s + strings.Repeat("_", 64-len(s))
}

// link to a child from a key on.
func link(key string, child int) page.Entry {
	return page.Entry{Key: key, Value: string([]byte{byte(child >> 8), byte(child)})}
}

// above is a node of a Level above 0.
func above(level, right int, high string, l ...page.Entry) page.Page {
	return page.Page{Kind: 3, Level: level, Right: right, High: high, Entries: l}
}

// leaf has such entries.
func leaf(right int, high string, l ...page.Entry) page.Page {
	return page.Page{Kind: 3, Right: right, High: high, Entries: l}
}

// steps: one Step answers so; then the changes are committed, or aborted, where
// Again is answered.
func (b *base) steps(w *Work, held func(int) bool, want Progress) {
	b.t.Helper()
	p, e := w.Step(b.m, held)
	if p != want || e != api.OK {
		b.t.Errorf("%v %d, not %v", p, e, want)
	}
	if p.Again || e != api.OK {
		b.aborts()
	} else {
		b.commits()
	}
}

// stepsNot: a Step answers another error, or anything beside it.
func (b *base) stepsNot(w *Work, held func(int) bool, want api.Errno) {
	b.t.Helper()
	if p, e := w.Step(b.m, held); p != (Progress{}) || e != want {
		b.t.Errorf("%v %d, not %d", p, e, want)
	}
}

// work of one kind.
func (b *base) work(kind int, key string) *Work {
	return Start(b.x, buffer.Op{Kind: kind, Key: key}, "", 1000)
}

// goesOn with a work till it answers so, or an error.
func (b *base) goesOn(w *Work, held func(int) bool, until func(Progress) bool) api.Errno {
	b.t.Helper()
	for range 100 {
		p, e := w.Step(b.m, held)
		if p.Again || e != api.OK {
			b.aborts()
		} else {
			b.commits()
		}
		if e != api.OK || until(p) {
			return e
		}
	}
	b.t.Fatal("it doesn't end")
	return api.OK
}

func isOver(p Progress) bool { return p.Over }

func isApplied(p Progress) bool { return p.Applied }

// does a work as a whole, with all leaves held.
func (b *base) does(kind int, keys ...string) {
	b.t.Helper()
	for _, key := range keys {
		if e := b.goesOn(b.work(kind, key), yes, isOver); e != api.OK {
			b.t.Fatalf("%d %q: %d", kind, key, e)
		}
	}
}

// waits: works are done with no leaf held.
func (b *base) waits(kind int, keys ...string) {
	b.t.Helper()
	for _, key := range keys {
		if e := b.goesOn(b.work(kind, key), no, isOver); e != api.OK {
			b.t.Fatalf("%d %q: %d", kind, key, e)
		}
	}
}

// behind: a work is left behind when it is Applied.
func (b *base) behind(w *Work, held func(int) bool) {
	b.t.Helper()
	b.answers(b.goesOn(w, held, isApplied), api.OK)
}

// letters: keys of 64 bytes, seven of which fill a leaf.
func letters(s string) []string {
	var l []string
	for _, r := range s {
		l = append(l, long(string(r)))
	}
	return l
}

func (b *base) flags(n int, want bitmap.Flags) {
	b.t.Helper()
	if f, e := bitmap.Get(b.m, n); f != want || e != api.OK {
		b.t.Errorf("flags of %d: %v %d, not %v", n, f, e, want)
	}
}

func noFlags() bitmap.Flags { return bitmap.Flags{} }

func (b *base) setsFlags(n int, f bitmap.Flags) {
	b.t.Helper()
	b.answers(bitmap.Set(b.m, n, f), api.OK)
	b.commits()
}

func (b *base) pending(want int) {
	b.t.Helper()
	if n, e := buffer.Pending(b.m); n != want || e != api.OK {
		b.t.Errorf("pending %d %d, not %d", n, e, want)
	}
}

func (b *base) lists(n int, want ...buffer.Op) {
	b.t.Helper()
	if l, e := buffer.List(b.m, id, n); !slices.Equal(l, want) || e != api.OK {
		b.t.Errorf("%d: %v %d, not %v", n, l, e, want)
	}
}

func (b *base) entries(want ...page.Entry) {
	b.t.Helper()
	if l, e := b.x.Entries(b.m); !slices.Equal(l, want) || e != api.OK {
		b.t.Errorf("%.600q %d, not %.600q", fmt.Sprint(l), e, fmt.Sprint(want))
	}
}

func (b *base) whole(n int, want page.Page) {
	b.t.Helper()
	p, e := b.x.Whole(b.m, n)
	p.LSN = 0
	if !same(p, want) || e != api.OK {
		b.t.Errorf("%d: %v %d, not %v", n, p, e, want)
	}
}

func (b *base) wholeNot(n int, want api.Errno) {
	b.t.Helper()
	if p, e := b.x.Whole(b.m, n); !same(p, page.Page{}) || e != want {
		b.t.Errorf("%d: %v %d, not %d", n, p, e, want)
	}
}

// place of a node in its row: its page, the least key that it covers.
type place struct {
	at   int
	from string
	p    page.Page
}

// nodes of the tree, those of its leaves first, each Level's in their row.
func (b *base) nodes() [][]place {
	b.t.Helper()
	top := b.page(b.x.Root)
	all := make([][]place, top.Level+1)
	for level, at := top.Level, b.x.Root; level >= 0; level-- {
		all[level] = b.rightward(at)
		if level > 0 {
			at = child(all[level][0].p.Entries[0])
		}
	}
	return all
}

func child(e page.Entry) int {
	return int(e.Value[0])<<8 | int(e.Value[1])
}

func (b *base) rightward(at int) []place {
	b.t.Helper()
	var l []place
	for from := ""; ; {
		p := b.page(at)
		l = append(l, place{at, from, p})
		if p.High == "" {
			return l
		}
		at, from = p.Right, p.High
	}
}

// rowOf the leaves: their pages.
func (b *base) rowOf() []int {
	b.t.Helper()
	var l []int
	for _, x := range b.nodes()[0] {
		l = append(l, x.at)
	}
	return l
}

// row tells where the leaves are other pages.
func (b *base) row(want ...int) {
	b.t.Helper()
	if l := b.rowOf(); !slices.Equal(l, want) {
		b.t.Errorf("leaves %v, not %v", l, want)
	}
}

// closed leaves, by what the nodes above them have.
func closed(nodes [][]place) map[int]bool {
	known := map[int]bool{}
	if len(nodes) > 1 {
		for _, x := range nodes[1] {
			for _, e := range x.p.Entries {
				known[child(e)] = true
			}
		}
	}
	all := map[int]bool{}
	for _, x := range nodes[0] {
		all[x.at] = x.p.High != "" && !known[x.p.Right]
	}
	return all
}

func classOf(p page.Page) int {
	free := 489 - len(p.High)
	for _, e := range p.Entries {
		free -= 3 + len(e.Key) + len(e.Value)
	}
	switch {
	case free < 64:
		return 0
	case free < 128:
		return 1
	case free < 256:
		return 2
	}
	return 3
}

// sound tells where the tree isn't right, or a leaf's flags aren't, or a leaf has
// no room for what waits for it.
func (b *base) sound() {
	b.t.Helper()
	nodes := b.nodes()
	for level, row := range nodes {
		for _, x := range row {
			if x.p.Level != level || x.p.Kind != 3 {
				b.t.Error("node", x.at, x.p)
			}
			for i, e := range x.p.Entries {
				if e.Key < x.from || i > 0 && e.Key <= x.p.Entries[i-1].Key || x.p.High != "" && e.Key >= x.p.High {
					b.t.Error("key", x.at, e)
				}
			}
		}
	}
	b.flags(b.x.Root, bitmap.Flags{})
	if !b.x.Waits {
		for _, x := range nodes[0] {
			b.flags(x.at, bitmap.Flags{})
		}
		b.pending(0)
		return
	}
	shut, waiting := closed(nodes), 0
	for _, x := range nodes[0] {
		if x.at == b.x.Root {
			continue
		}
		l, e := buffer.List(b.m, id, x.at)
		b.answers(e, api.OK)
		b.flags(x.at, bitmap.Flags{Class: classOf(x.p), Buffered: len(l) > 0, Closed: shut[x.at]})
		room := []int{0, 64, 128, 256}[classOf(x.p)]
		for _, c := range l {
			if c.Key < x.from || x.p.High != "" && c.Key >= x.p.High {
				b.t.Error("waits for another leaf", x.at, c)
			}
			if c.Kind == buffer.Insert {
				room -= 3 + len(c.Key)
			}
		}
		if room < 0 {
			b.t.Error("no room", x.at, l)
		}
		waiting += len(l)
	}
	b.pending(waiting)
}
