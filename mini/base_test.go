package mini

import (
	"fmt"
	"slices"
	"strings"
	"testing"

	"concordance/api"
	"concordance/device"
	"concordance/page"
	"concordance/patch"
	"concordance/record"
	"concordance/wal"
)

const bodyBytes = 496

var small = Plan{Half: 8, Slots: 2, Pages: 6, Frames: 3}

// withFrames: the small plan with so many frames.
func withFrames(n int) Plan {
	p := small
	p.Frames = n
	return p
}

// deviceOf a plan has just as many sectors as that.
func deviceOf(t *testing.T, p Plan) *device.Device {
	t.Helper()
	d, e := device.New(2 + 2*p.Half + 3*p.Slots + 2*p.Pages)
	if e != api.OK {
		t.Fatal("device.New", e)
	}
	return d
}

func slotsFrom(p Plan) int { return 2 + 2*p.Half }

func pagesFrom(p Plan) int { return slotsFrom(p) + 3*p.Slots }

// spoil fills all sectors with what means nothing.
func spoil(d *device.Device) {
	for i := range d.Size() {
		d.Write(i, junk(i))
	}
	d.Sync()
}

func junk(i int) string {
	return strings.Repeat(fmt.Sprintf("%04d", i), api.Sector/4)
}

var nothing = strings.Repeat("\x00", api.Sector)

func sector(t *testing.T, d *device.Device, i int) string {
	t.Helper()
	s, e := d.Read(i)
	if e != api.OK {
		t.Fatal("Read", i, e)
	}
	return s
}

// laid lays a page's bytes on the device, whatever they are, beside a store.
func laid(d *device.Device, p Plan, n int, bytes string) {
	d.Write(pagesFrom(p)+2*n, bytes[:api.Sector])
	d.Write(pagesFrom(p)+2*n+1, bytes[api.Sector:])
	d.Sync()
}

// stored bytes of a page on the device.
func stored(t *testing.T, d *device.Device, p Plan, n int) string {
	t.Helper()
	return sector(t, d, pagesFrom(p)+2*n) + sector(t, d, pagesFrom(p)+2*n+1)
}

// commands of a call: how many were done.
func commands(d *device.Device, call func()) int {
	_, before := d.Open()
	call()
	_, done := d.Open()
	return done - before
}

// named page has a name for its High.
func named(name string) page.Page {
	return page.Page{Kind: 7, High: name}
}

func encoded(t *testing.T, lsn int, p page.Page) string {
	t.Helper()
	p.LSN = lsn
	s, e := page.Encode(p)
	if e != api.OK {
		t.Fatal("Encode", e)
	}
	return s
}

// text of a record.
func text(t *testing.T, r record.Record) string {
	t.Helper()
	s, e := record.Put(r)
	if e != api.OK {
		t.Fatal("record.Put", e)
	}
	return s
}

// logged lays a log of these texts on a device.
func logged(t *testing.T, d *device.Device, p Plan, texts ...string) {
	t.Helper()
	if e := wal.Format(d, 0, p.Half, texts[0]); e != api.OK {
		t.Fatal("wal.Format", e)
	}
	l, _, e := wal.Open(d, 0, p.Half)
	if e != api.OK || l.Switch(1, texts[0]) != api.OK {
		t.Fatal("wal", e)
	}
	for i, s := range texts[1:] {
		if e := l.Append(i+2, s); e != api.OK {
			t.Fatal("Append", e)
		}
	}
	if e := l.Flush(); e != api.OK {
		t.Fatal("Flush", e)
	}
}

// base is a store on a device of its own.
type base struct {
	t *testing.T
	p Plan
	d *device.Device
	s *Store
}

// fresh has a device that was formatted, and a store that was opened.
func fresh(t *testing.T, p Plan) *base {
	t.Helper()
	b := &base{t: t, p: p, d: deviceOf(t, p)}
	b.answers(Format(b.d, p), api.OK)
	b.opens()
	return b
}

// begun has had a Checkpoint, too.
func begun(t *testing.T, p Plan) *base {
	t.Helper()
	b := fresh(t, p)
	b.answers(b.s.Checkpoint("begun"), api.OK)
	return b
}

// opens the device, anew.
func (b *base) opens() []record.Record {
	b.t.Helper()
	s, l, e := Open(b.d, b.p)
	if e != api.OK || s == nil {
		b.t.Fatal("Open", e)
	}
	b.s = s
	return l
}

// again: the power fails, nothing is kept, and the device is opened.
func (b *base) again(keep ...int) []record.Record {
	b.t.Helper()
	b.d.Blow(keep...)
	b.d.On()
	return b.opens()
}

// answers tells where an answer is another one.
func (b *base) answers(e, want api.Errno) {
	b.t.Helper()
	if e != want {
		b.t.Errorf("%d, not %d", e, want)
	}
}

// asks for a page.
func (b *base) asks(m *Mini, n int) page.Page {
	b.t.Helper()
	p, e := m.Page(n)
	if e != api.OK {
		b.t.Errorf("Page %d: %d", n, e)
	}
	return p
}

// refuses a page.
func (b *base) refuses(m *Mini, n int, want api.Errno) {
	b.t.Helper()
	if p, e := m.Page(n); e != want || !samePage(p, page.Page{}) {
		b.t.Errorf("Page %d: %v %d, not %d", n, p, e, want)
	}
}

func (b *base) sets(m *Mini, n int, p page.Page) {
	b.t.Helper()
	if e := m.Set(n, p); e != api.OK {
		b.t.Errorf("Set %d: %d", n, e)
	}
}

// names a page in some changes.
func (b *base) names(m *Mini, n int, name string) {
	b.t.Helper()
	b.asks(m, n)
	b.sets(m, n, named(name))
}

func (b *base) commits(m *Mini, r record.Record, want int) {
	b.t.Helper()
	if n, e := m.Commit(r); n != want || e != api.OK {
		b.t.Errorf("Commit: %d %d, not %d", n, e, want)
	}
}

// fails to commit, and tells where that has changed anything.
func (b *base) fails(m *Mini, r record.Record, want api.Errno) {
	b.t.Helper()
	before := b.s.LSN()
	if n, e := m.Commit(r); n != 0 || e != want {
		b.t.Errorf("Commit: %d %d, not %d", n, e, want)
	}
	if b.s.LSN() != before {
		b.t.Error("LSN", b.s.LSN(), "not", before)
	}
}

// changes one page's name in changes of its own: the LSN.
func (b *base) changes(n int, name string) int {
	b.t.Helper()
	m := b.s.Begin()
	b.names(m, n, name)
	lsn, e := m.Commit(record.Record{Kind: record.Change})
	if e != api.OK {
		b.t.Error("Commit", e)
	}
	return lsn
}

// has tells where a page has another LSN or name.
func (b *base) has(n, lsn int, name string) {
	b.t.Helper()
	m := b.s.Begin()
	defer m.Abort()
	want := named(name)
	want.LSN = lsn
	if name == "" {
		want = page.Page{}
	}
	if p := b.asks(m, n); !samePage(p, want) {
		b.t.Errorf("page %d: %v, not %v", n, p, want)
	}
}

// pinned: is a held page pinned?
func (b *base) pinned(n int) bool {
	b.t.Helper()
	if !b.s.Has(n) {
		b.t.Error("not held:", n)
	}
	return b.s.Evict(n) == api.ErrPins
}

// free tells where any page is pinned: as many can be asked as there are frames.
func (b *base) free() {
	b.t.Helper()
	m := b.s.Begin()
	defer m.Abort()
	for n := range min(b.p.Frames, b.p.Pages) {
		if _, e := m.Page(n); e == api.ErrPins {
			b.t.Error("some page is pinned")
		}
	}
}

func samePage(a, b page.Page) bool {
	return a.LSN == b.LSN && a.Kind == b.Kind && a.Level == b.Level && a.Right == b.Right && a.High == b.High && slices.Equal(a.Entries, b.Entries)
}

func sameRecord(a, b record.Record) bool {
	same := func(x, y record.Changed) bool {
		return x.Page == y.Page && slices.Equal(x.Pieces, y.Pieces)
	}
	return a.LSN == b.LSN && a.Txn == b.Txn && a.Kind == b.Kind && a.Undo == b.Undo && a.Undone == b.Undone && slices.EqualFunc(a.Pages, b.Pages, same)
}

// told tells where records are others.
func (b *base) told(l []record.Record, want ...record.Record) {
	b.t.Helper()
	if !slices.EqualFunc(l, want, sameRecord) {
		b.t.Errorf("told %v, not %v", l, want)
	}
}

// piece of a page's body.
func piece(at int, data string) []patch.Piece {
	return []patch.Piece{{At: at, Data: data}}
}
