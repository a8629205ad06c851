package mini

import (
	"fmt"
	"math"
	"slices"
	"strings"
	"testing"

	"concordance/api"
	"concordance/page"
	"concordance/record"
)

var noPages = []int{-1, 6, 7, 799, 800, 65536, math.MaxInt, math.MinInt}

func TestP11_3OfNothing(t *testing.T) {
	var s *Store
	if m := s.Begin(); m != nil {
		t.Error("Begin")
	}
	b := &base{t: t}
	var m *Mini
	for _, n := range append(noPages, 0, 1) {
		b.refuses(m, n, api.ErrArg)
		b.answers(m.Set(n, named("a")), api.ErrArg)
		b.answers(m.Set(n, page.Page{}), api.ErrArg)
		m.Leave(n)
	}
	for _, r := range []record.Record{{}, {Kind: record.Change}, {Kind: record.Commit}} {
		if n, e := m.Commit(r); n != 0 || e != api.ErrArg {
			t.Error(n, e)
		}
	}
	m.Abort()
}

func TestP11_3PageAsItIs(t *testing.T) {
	b := begun(t, small)
	want := page.Page{Kind: 255, Level: 255, Right: 65535, High: "high", Entries: []page.Entry{{Key: "a", Value: "b"}, {Key: "c", Marked: true}}}
	m := b.s.Begin()
	if p := b.asks(m, 2); !samePage(p, page.Page{}) {
		t.Error(p)
	}
	b.sets(m, 2, want)
	b.commits(m, record.Record{Kind: record.Change}, 3)
	want.LSN = 3
	for range 2 {
		m := b.s.Begin()
		for range 2 {
			p := b.asks(m, 2)
			if !samePage(p, want) {
				t.Error(p)
			}
			p.Entries[0].Value = "changed by the caller"
		}
		b.answers(b.s.Checkpoint(""), api.OK)
		m.Abort()
		b.answers(b.s.Evict(2), api.OK) // read anew
	}
}

func TestP11_3PageOfNone(t *testing.T) {
	b := fresh(t, small)
	m := b.s.Begin()
	for _, n := range noPages {
		b.refuses(m, n, api.ErrArg)
		b.answers(m.Set(n, named("a")), api.ErrState)
		m.Leave(n)
	}
	b.asks(m, 5)
	b.d.Blow()
	b.refuses(m, -1, api.ErrArg)
	b.refuses(m, 6, api.ErrArg)
}

func TestP11_3PageAndFrames(t *testing.T) {
	for _, frames := range []int{1, 2, 3, 64} {
		p := Plan{Half: 1, Slots: 1, Pages: frames + 2, Frames: frames}
		b := begun(t, p)
		m, other := b.s.Begin(), b.s.Begin()
		for n := range frames {
			b.asks(m, n)
		}
		for range 2 {
			b.refuses(m, frames, api.ErrPins)
			b.refuses(other, frames+1, api.ErrPins)
			b.answers(m.Set(frames, named("a")), api.ErrState)
		}
		for n := range frames {
			b.asks(m, n) // once more
			b.asks(other, n)
		}
		m.Abort()
		b.refuses(other, frames, api.ErrPins) // pinned by the other one
		other.Leave(frames - 1)
		b.asks(other, frames)
		other.Abort()
		b.free()
	}
}

func TestP11_3PageOfWhatCannotBeRead(t *testing.T) {
	b := begun(t, small)
	none := page.Build(3, strings.Repeat("x", bodyBytes)) // Whole, but no page's form
	noKind := page.Build(3, strings.Repeat("\x00", bodyBytes))
	laid(b.d, b.p, 1, none)
	laid(b.d, b.p, 2, noKind)
	laid(b.d, b.p, 3, none[:api.Sector]+nothing)
	m := b.s.Begin()
	for range 2 {
		for n := 1; n <= 3; n++ {
			b.refuses(m, n, api.ErrCorrupt)
			b.answers(m.Set(n, named("a")), api.ErrState)
			m.Leave(n)
		}
		b.asks(m, 0)
	}
	if b.s.Has(1) && b.pinned(1) || b.s.Has(2) && b.pinned(2) {
		t.Error("pinned")
	}
	b.asks(m, 4)
	b.asks(m, 5) // there are frames for these
	b.refuses(m, 1, api.ErrPins)
	m.Leave(4)
	b.d.Blow()
	b.refuses(m, 1, api.ErrPower)
	b.asks(m, 0)
	b.sets(m, 0, named("a"))
	b.fails(m, record.Record{Kind: record.Change}, api.ErrPower)
}

// TestP11_3SetIsSeenHere and not by others, till it is committed.
func TestP11_3SetIsSeenHere(t *testing.T) {
	b := begun(t, small)
	m, other := b.s.Begin(), b.s.Begin()
	first := b.asks(m, 1)
	b.asks(other, 2)
	for i, name := range []string{"a", "b", "c"} {
		p := named(name)
		p.LSN = []int{-1, 9, 1 << 60}[i] // it doesn't count
		p.Entries = []page.Entry{{Key: name}}
		b.sets(m, 1, p)
		p.Entries[0].Key = "changed by the caller"
		want := named(name)
		want.LSN = first.LSN
		want.Entries = []page.Entry{{Key: name}}
		if p := b.asks(m, 1); !samePage(p, want) {
			t.Error(p)
		}
		if p := b.asks(other, 2); !samePage(p, page.Page{}) {
			t.Error(p)
		}
	}
	other.Abort()
	m.Abort()
	b.has(1, 0, "")
	if b.changes(1, "d") != 3 {
		t.Error("LSN")
	}
	m = b.s.Begin()
	b.names(m, 1, "e")
	if p := b.asks(m, 1); p.LSN != 3 || p.High != "e" {
		t.Error(p)
	}
	b.commits(m, record.Record{Kind: record.Change}, 4)
	b.has(1, 4, "e")
}

func TestP11_3SetOfWhatMayNotBe(t *testing.T) {
	b := begun(t, small)
	m, other := b.s.Begin(), b.s.Begin()
	b.asks(m, 1)
	b.asks(other, 2)
	long := page.Entry{Key: strings.Repeat("k", 64), Value: strings.Repeat("v", 100)}
	full := page.Page{Kind: 1, Entries: []page.Entry{long, long, {Value: strings.Repeat("v", 100)}}}
	full.High = strings.Repeat("h", 489-2*167-103)
	fuller := full
	fuller.High += "h"
	wrong := map[api.Errno][]page.Page{
		api.ErrArg: {{}, {Kind: -1}, {Kind: 256}, {Kind: 1, Level: -1}, {Kind: 1, Level: 256}, {Kind: 1, Right: -1}, {Kind: 1, Right: 65536},
			{Kind: 1, High: strings.Repeat("h", 65)}, {Kind: 1, Entries: []page.Entry{{Key: strings.Repeat("k", 65)}}}, {Kind: 1, Entries: []page.Entry{{Value: strings.Repeat("v", 101)}}}},
		api.ErrFull: {fuller},
	}
	for round, want := range []page.Page{{}, named("a"), full} {
		if round > 0 {
			b.sets(m, 1, want)
		}
		for e, l := range wrong {
			for _, p := range l {
				b.answers(m.Set(1, p), e)
				b.answers(m.Set(2, p), api.ErrState) // it was asked elsewhere
				b.answers(m.Set(-1, p), api.ErrState)
			}
		}
		if p := b.asks(m, 1); !samePage(p, want) {
			t.Error(p)
		}
	}
	b.commits(m, record.Record{Kind: record.Change}, 3)
	m = b.s.Begin()
	full.LSN = 3
	if p := b.asks(m, 1); !samePage(p, full) {
		t.Error(p)
	}
}

func TestP11_3Leave(t *testing.T) {
	b := begun(t, withFrames(1))
	b.changes(1, "a")
	m := b.s.Begin()
	left := func(n int) {
		t.Helper()
		m.Leave(n)
		b.answers(m.Set(n, named("x")), api.ErrState)
		if b.pinned(n) {
			t.Error("pinned", n)
		}
	}
	stays := func(n int) {
		t.Helper()
		m.Leave(n)
		if !b.pinned(n) {
			t.Error("not pinned", n)
		}
	}
	for _, n := range append(noPages, 0, 1, 2) {
		m.Leave(n) // not asked
	}
	b.asks(m, 1)
	b.asks(m, 1)
	left(1)
	m.Leave(1)
	b.asks(m, 2) // it has the frame now
	stays2 := func(p page.Page) {
		t.Helper()
		b.sets(m, 2, p)
		stays(2)
		if got := b.asks(m, 2); !samePage(got, p) {
			t.Error(got)
		}
	}
	stays2(named("b"))
	stays2(named("c"))
	for _, n := range []int{-1, 0, 1, 3, 6} {
		stays(2)
		m.Leave(n)
	}
	m.Abort()
	// A page that is Set as it is, or otherwise and then as it was.
	m = b.s.Begin()
	b.names(m, 1, "a")
	left(1)
	b.names(m, 1, "b")
	stays(1)
	b.sets(m, 1, named("a"))
	left(1)
	if p := b.asks(m, 1); p.High != "a" || p.LSN != 3 {
		t.Error(p)
	}
	b.sets(m, 1, named("c")) // asked again, and Set
	stays(1)
	b.commits(m, record.Record{Kind: record.Change}, 4)
	b.has(1, 4, "c")
	m = b.s.Begin()
	b.asks(m, 1)
	left(1)
	b.commits(m, record.Record{Kind: record.Commit}, 5) // as if it hadn't been asked
	b.has(1, 4, "c")
}

// TestP11_3LeaveHere lets no page go that another one has asked.
func TestP11_3LeaveHere(t *testing.T) {
	b := begun(t, small)
	m, other := b.s.Begin(), b.s.Begin()
	b.asks(m, 1)
	b.asks(other, 1)
	m.Leave(1)
	m.Leave(1)
	if !b.pinned(1) {
		t.Error("not pinned")
	}
	b.asks(m, 1)
	other.Leave(1)
	if !b.pinned(1) {
		t.Error("not pinned")
	}
	m.Leave(1)
	if b.pinned(1) {
		t.Error("pinned")
	}
}

// TestP11_3WhatIsOver answers ErrState, and pins nothing.
func TestP11_3WhatIsOver(t *testing.T) {
	b := begun(t, small)
	ends := map[string]func(*Mini){
		"Abort":  func(m *Mini) { m.Abort() },
		"Commit": func(m *Mini) { m.Commit(record.Record{Kind: record.Commit}) },
		"none":   func(m *Mini) { m.Leave(0); m.Leave(1); m.Commit(record.Record{Kind: record.Change}) },
		"fails":  func(m *Mini) { m.Commit(record.Record{}) },
	}
	for name, end := range ends {
		m := b.s.Begin()
		b.asks(m, 0)
		b.asks(m, 1)
		if name != "none" {
			b.sets(m, 1, named(name))
		}
		end(m)
		lsn := b.s.LSN()
		other := b.s.Begin()
		b.asks(other, 0)
		for range 2 {
			for _, n := range append(noPages, 0, 1, 2) {
				b.refuses(m, n, api.ErrState)
				b.answers(m.Set(n, named("x")), api.ErrState)
				b.answers(m.Set(n, page.Page{}), api.ErrState)
				m.Leave(n)
			}
			b.fails(m, record.Record{Kind: record.Change}, api.ErrState)
			b.fails(m, record.Record{Kind: record.Commit}, api.ErrState)
			b.fails(m, record.Record{Kind: -1}, api.ErrState)
			m.Abort()
		}
		if !b.pinned(0) {
			t.Error("let go of another one's page")
		}
		other.Abort()
		if b.pinned(0) || b.s.LSN() != lsn {
			t.Error(name)
		}
		b.free()
	}
}

func TestP11_4CommitIsRecorded(t *testing.T) {
	b := begun(t, small)
	m := b.s.Begin()
	for _, n := range []int{4, 0, 2} { // not by rising numbers
		p := named(fmt.Sprint("page ", n))
		p.Entries = []page.Entry{{Key: "k", Value: strings.Repeat("v", 50)}, {Key: "l"}}
		b.asks(m, n)
		b.sets(m, n, p)
	}
	r := record.Record{LSN: 77, Txn: 5, Kind: record.Change, Undo: "undo", Undone: 7, Pages: []record.Changed{{Page: 1, Pieces: piece(0, "a")}}}
	b.commits(m, r, 3)
	if r.LSN != 77 || len(r.Pages) != 1 || b.s.LSN() != 3 {
		t.Error(r, b.s.LSN())
	}
	m = b.s.Begin()
	p := b.asks(m, 2)
	p.Level, p.Entries[0].Value, p.Entries[1].Marked = 3, p.Entries[0].Value[:49]+"w", true
	b.asks(m, 4) // it is read alone
	b.asks(m, 0)
	b.sets(m, 0, b.asks(m, 0)) // as it is
	b.sets(m, 2, p)
	b.commits(m, record.Record{LSN: -1, Txn: 1<<48 - 1, Kind: record.Ended, Pages: []record.Changed{{Page: -1}}}, 4)
	b.answers(b.s.Flush(4), api.OK)

	body := func(n int) string {
		p := named(fmt.Sprint("page ", n))
		p.Entries = []page.Entry{{Key: "k", Value: strings.Repeat("v", 50)}, {Key: "l"}}
		return page.Body(encoded(t, 0, p))
	}
	first := record.Record{LSN: 3, Txn: 5, Kind: record.Change, Undo: "undo", Undone: 7}
	for _, n := range []int{0, 2, 4} {
		// One piece: nowhere in it are four noughts in a row.
		whole := strings.TrimRight(body(n), "\x00")
		first.Pages = append(first.Pages, record.Changed{Page: n, Pieces: piece(0, whole)})
	}
	second := record.Record{LSN: 4, Txn: 1<<48 - 1, Kind: record.Ended, Pages: []record.Changed{{Page: 2, Pieces: piece(1, "\x03")}}}
	// Behind the head of 7 and "page 2" the first entry's 3, its key, its value's
	// last byte, which is next to the mark of the second one.
	second.Pages[0].Pieces = append(second.Pages[0].Pieces, piece(7+6+3+1+49, "w\x01")...)
	b.told(b.again(), record.Record{LSN: 2, Kind: record.State, Undo: "begun"}, first, second)
	m = b.s.Begin()
	p.LSN = 4
	if got := b.asks(m, 2); !samePage(got, p) {
		t.Error(got)
	}
}

func TestP11_4NoRecord(t *testing.T) {
	b := begun(t, small)
	b.changes(1, "a")
	room := b.s.Room()
	none := func(name string, r record.Record, f func(*Mini)) {
		t.Helper()
		m := b.s.Begin()
		f(m)
		b.commits(m, r, 0)
		b.refuses(m, 1, api.ErrState)
		b.free()
		if b.s.LSN() != 3 || b.s.Room() != room {
			t.Error(name, b.s.LSN(), b.s.Room())
		}
	}
	r := record.Record{LSN: 9, Txn: 4, Kind: record.Change, Pages: []record.Changed{{Page: 2, Pieces: piece(0, "a")}}}
	none("nothing", r, func(*Mini) {})
	none("asked", r, func(m *Mini) { b.asks(m, 0); b.asks(m, 1) })
	none("as it is", r, func(m *Mini) { b.names(m, 1, "a") })
	none("as it was", r, func(m *Mini) { b.names(m, 1, "b"); b.sets(m, 1, named("a")) })
	none("with an LSN", r, func(m *Mini) { p := b.asks(m, 1); p.LSN = 99; b.sets(m, 1, p) })
	none("left", r, func(m *Mini) { b.asks(m, 1); m.Leave(1) })
	b.has(1, 3, "a")
	b.d.Blow()
	none("without power", r, func(m *Mini) { b.asks(m, 1) })
	b.d.On()
	b.has(1, 3, "a")
}

// TestP11_4RecordsWithoutPages are needed all the same, but for one that tells
// nothing.
func TestP11_4RecordsWithoutPages(t *testing.T) {
	b := begun(t, small)
	l := []record.Record{
		{Kind: record.Commit}, {Kind: record.Ended}, {Kind: record.State}, {Kind: record.Change, Undo: "a"}, {Kind: record.Change, Undone: 1},
		{Kind: record.Change, Undo: "\x00", Undone: 65535}, {Txn: 3, Kind: record.Commit, Undo: "c", Undone: 2},
	}
	want := []record.Record{{LSN: 2, Kind: record.State, Undo: "begun"}}
	for i, r := range l {
		m := b.s.Begin()
		if i%2 == 0 {
			b.asks(m, i%3)
		}
		b.commits(m, r, 3+i)
		r.LSN = 3 + i
		want = append(want, r)
	}
	b.answers(b.s.Flush(b.s.LSN()), api.OK)
	b.told(b.again(), want...)
	b.has(0, 0, "")
}

// TestP11_4RecordsThatMayNotBe: nothing has changed then, but that the changes
// are over.
func TestP11_4RecordsThatMayNotBe(t *testing.T) {
	b := begun(t, small)
	b.changes(1, "a")
	room := b.s.Room()
	long := strings.Repeat("u", 65536)
	for _, x := range []struct {
		r    record.Record
		want api.Errno
	}{
		{record.Record{}, api.ErrArg},
		{record.Record{Kind: -1}, api.ErrArg},
		{record.Record{Kind: 5}, api.ErrArg},
		{record.Record{Kind: record.Change, Undone: -1}, api.ErrArg},
		{record.Record{Kind: record.Change, Undone: 65536}, api.ErrArg},
		{record.Record{Kind: record.Change, Undo: long}, api.ErrArg},
		{record.Record{Kind: record.Commit, Txn: -1}, api.ErrArg},
		{record.Record{Kind: record.Commit, Txn: 1 << 48}, api.ErrArg},
		{record.Record{Kind: record.Commit, Undo: long[:65535]}, api.ErrLong},
		{record.Record{Kind: record.Commit, Undo: long[:api.MaxRecord-17]}, api.ErrLong},
		{record.Record{Kind: record.Commit, Undo: long[:api.MaxRecord-18]}, api.ErrLog},
		{record.Record{Kind: record.Commit, Undo: long[:room-18+1]}, api.ErrLog},
	} {
		for _, changed := range []bool{false, true} {
			want := x.want
			m := b.s.Begin()
			b.asks(m, 0)
			if changed {
				b.names(m, 1, "b")
				if len(x.r.Undo) == api.MaxRecord-18 {
					want = api.ErrLong // with the page
				}
			}
			b.fails(m, x.r, want)
			b.refuses(m, 0, api.ErrState)
			b.has(1, 3, "a")
			b.free()
			if b.s.Room() != room {
				t.Error("Room", b.s.Room())
			}
			// ErrArg and ErrLong come ahead of the power.
			if m := b.s.Begin(); x.want != api.ErrLog && !changed {
				b.d.Blow()
				b.fails(m, x.r, x.want)
				b.d.On()
			}
		}
	}
	// A Txn that may not be counts, where there is a record, alone.
	m := b.s.Begin()
	b.names(m, 1, "b")
	b.fails(m, record.Record{Kind: record.Change, Txn: -1}, api.ErrArg)
	b.has(1, 3, "a")
	b.answers(b.s.Flush(b.s.LSN()), api.OK)
	if l := b.again(); len(l) != 2 || l[1].LSN != 3 {
		t.Error(l)
	}
}

// TestP11_4TooLong: the pages' pieces are more than a record takes, if those of
// one page less aren't.
func TestP11_4TooLong(t *testing.T) {
	b := begun(t, Plan{Half: 512, Slots: 16, Pages: 64, Frames: 64})
	fill := func(count int) *Mini {
		m := b.s.Begin()
		for n := range count {
			p := page.Page{Kind: 1}
			for i := range 4 {
				p.Entries = append(p.Entries, page.Entry{Key: fmt.Sprint("key", i), Value: strings.Repeat("v", 100)})
			}
			b.asks(m, n)
			b.sets(m, n, p)
		}
		return m
	}
	most := 0
	for count := 64; count > 0 && most == 0; count-- {
		m := fill(count)
		if n, e := m.Commit(record.Record{Kind: record.Change}); e == api.OK {
			most = count
		} else if n != 0 || e != api.ErrLong {
			t.Error(n, e)
		} else {
			b.has(0, 0, "")
			b.has(count-1, 0, "")
			b.free()
		}
	}
	if most < 30 || most > 40 || b.s.LSN() != 3 {
		t.Error(most, b.s.LSN())
	}
	m := b.s.Begin()
	if p := b.asks(m, most-1); p.LSN != 3 || len(p.Entries) != 4 {
		t.Error(p)
	}
	if p := b.asks(m, most); p.LSN != 0 {
		t.Error(p)
	}
}

// TestP11_4NoRoomInTheLog: what goes into it just so is committed.
func TestP11_4NoRoomInTheLog(t *testing.T) {
	b := begun(t, Plan{Half: 1, Slots: 1, Pages: 2, Frames: 1})
	b.changes(1, "a")
	b.answers(b.s.Flush(3), api.OK)
	room := b.s.Room()
	for _, over := range []int{1, 2, 100} {
		m := b.s.Begin()
		b.names(m, 1, "b")
		b.fails(m, record.Record{Kind: record.Commit, Undo: strings.Repeat("u", room-18+over)}, api.ErrLog)
		b.has(1, 3, "a")
		b.free()
	}
	m := b.s.Begin()
	b.names(m, 1, "b")
	b.fails(m, record.Record{Kind: record.Commit, Undo: strings.Repeat("u", room-18)}, api.ErrLog) // the pages' pieces, too
	b.commits(b.s.Begin(), record.Record{Kind: record.Commit, Undo: strings.Repeat("u", room-18)}, 4)
	if b.s.Room() != 0 {
		t.Error(b.s.Room())
	}
	m = b.s.Begin()
	b.names(m, 1, "b")
	b.fails(m, record.Record{Kind: record.Change}, api.ErrLog)
	b.commits(b.s.Begin(), record.Record{Kind: record.Change}, 0)
	b.answers(b.s.Flush(4), api.OK)
	if l := b.again(); len(l) != 3 || l[2].LSN != 4 {
		t.Error(l)
	}
	b.has(1, 3, "a")
	b.answers(b.s.Checkpoint(""), api.OK)
	if n := b.changes(1, "b"); n != 6 {
		t.Error(n)
	}
}

func TestP11_4SeveralUnderWay(t *testing.T) {
	b := begun(t, small)
	one, two, three := b.s.Begin(), b.s.Begin(), b.s.Begin()
	b.asks(three, 5)
	b.names(one, 1, "one")
	b.names(two, 2, "two")
	b.refuses(three, 4, api.ErrPins)
	b.asks(one, 5)
	b.asks(two, 5)
	b.commits(two, record.Record{Txn: 2, Kind: record.Change}, 3)
	if p := b.asks(one, 1); p.High != "one" || p.LSN != 0 {
		t.Error(p)
	}
	b.has(2, 3, "two")
	b.answers(b.s.Checkpoint("while they are under way"), api.OK)
	b.refuses(two, 2, api.ErrState)
	b.commits(one, record.Record{Txn: 1, Kind: record.Change}, 5)
	b.asks(three, 5)
	b.asks(three, 2)
	three.Abort()
	b.has(1, 5, "one")
	b.has(2, 3, "two")
	b.free()
	b.answers(b.s.Flush(5), api.OK)
	l := b.again()
	if len(l) != 2 || l[0].Undo != "while they are under way" || l[1].Txn != 1 {
		t.Error(l)
	}
	b.has(1, 5, "one")
	b.has(2, 3, "two")
}

// TestP11_4Abort changes nothing.
func TestP11_4Abort(t *testing.T) {
	b := begun(t, small)
	b.changes(1, "a")
	room := b.s.Room()
	m := b.s.Begin()
	b.names(m, 1, "b")
	b.names(m, 2, "c")
	if n := commands(b.d, m.Abort); n != 0 {
		t.Error(n, "commands")
	}
	b.has(1, 3, "a")
	b.has(2, 0, "")
	b.free()
	if b.s.LSN() != 3 || b.s.Room() != room {
		t.Error(b.s.LSN(), b.s.Room())
	}
	if n := b.changes(2, "d"); n != 4 {
		t.Error(n)
	}
}

func TestP11_5OfNothing(t *testing.T) {
	var s *Store
	b := &base{t: t}
	for _, n := range append(noPages, 0, 1) {
		b.answers(s.Flush(n), api.ErrArg)
		b.answers(s.Evict(n), api.ErrArg)
		if s.Has(n) {
			t.Error("Has", n)
		}
	}
	b.answers(s.Checkpoint(""), api.ErrArg)
	b.answers(s.Checkpoint(strings.Repeat("a", 1<<17)), api.ErrArg)
	if s.LSN() != 0 || s.Room() != 0 || s.Pages() != 0 {
		t.Error(s.LSN(), s.Room(), s.Pages())
	}
}

func TestP11_5Flush(t *testing.T) {
	b := begun(t, small)
	flushes := func(lsn, want int) {
		t.Helper()
		if n := commands(b.d, func() { b.answers(b.s.Flush(lsn), api.OK) }); n != want {
			t.Errorf("Flush %d: %d commands, not %d", lsn, n, want)
		}
	}
	for _, lsn := range []int{math.MinInt, -1, 0, 1, 2, 3, math.MaxInt} {
		flushes(lsn, 0) // nothing was appended
	}
	b.changes(1, "a")
	b.changes(1, "b")
	for _, lsn := range []int{-1, 0, 1, 2} {
		flushes(lsn, 0) // it lasts
	}
	flushes(3, 2) // a sector, Sync: both records
	flushes(4, 0)
	b.changes(1, "c")
	flushes(4, 0)
	flushes(100, 2)
	b.changes(1, "lost")
	b.d.Blow()
	flushes(5, 0)
	for _, lsn := range []int{6, 100} {
		b.answers(b.s.Flush(lsn), api.ErrPower)
	}
	b.d.On()
	if l := b.opens(); len(l) != 4 {
		t.Error(l)
	}
	b.has(1, 5, "c")
}

func TestP11_5Checkpoint(t *testing.T) {
	b := begun(t, small)
	b.changes(1, "a")
	b.changes(4, "b")
	before := b.s.Room()
	n := commands(b.d, func() { b.answers(b.s.Checkpoint("the text"), api.OK) })
	if want := 2 + (2*3 + 1 + 2*2 + 1) + 4; n != want {
		t.Error(n, "commands, not", want)
	}
	if b.s.LSN() != 5 || b.s.Room() <= before {
		t.Error(b.s.LSN(), b.s.Room())
	}
	if want := 242*small.Half - (2 + 18 + len("the text")) - 2; b.s.Room() != want {
		t.Error(b.s.Room(), "not", want)
	}
	for n, lsn := range map[int]int{1: 3, 4: 4} {
		if page.LSN(stored(t, b.d, b.p, n)) != lsn {
			t.Error("not written", n)
		}
		if !b.s.Has(n) {
			t.Error("held no more", n)
		}
	}
	n = commands(b.d, func() { b.answers(b.s.Checkpoint(""), api.OK) })
	if n != 4 || b.s.LSN() != 6 { // nothing has changed: a sector, Sync, a master, Sync
		t.Error(n, "commands", b.s.LSN())
	}
	b.told(b.again(), record.Record{LSN: 6, Kind: record.State})
	b.has(1, 3, "a")
	b.has(4, 4, "b")
	// Behind Open, where the log can't be appended to yet, there is nothing to flush.
	if n := commands(b.d, func() { b.answers(b.s.Checkpoint(""), api.OK) }); n != 4 {
		t.Error(n, "commands")
	}
}

func TestP11_5CheckpointOfTextsThatAreTooLong(t *testing.T) {
	for _, half := range []int{8, 512} {
		p := small
		p.Half = half
		for _, opened := range []bool{false, true} {
			b := begun(t, p)
			b.changes(1, "a")
			if opened {
				b.s.Flush(3)
				b.again()
			}
			most := min(half*242-2, api.MaxRecord) - 18
			for size, want := range map[int]api.Errno{most + 1: api.ErrLog, api.MaxRecord - 17: api.ErrLong, 65535: api.ErrLong, 65536: api.ErrArg} {
				if half == 512 && want == api.ErrLog {
					want = api.ErrLong
				}
				lsn, room := b.s.LSN(), b.s.Room()
				n := commands(b.d, func() { b.answers(b.s.Checkpoint(strings.Repeat("a", size)), want) })
				if b.s.LSN() != lsn || b.s.Room() != room || want != api.ErrLog && n != 0 {
					t.Error(b.s.LSN(), b.s.Room(), n)
				}
			}
			if half == 8 && page.LSN(stored(t, b.d, b.p, 1)) != 3 {
				t.Error("the pages are written ahead of layer 8's error")
			}
			b.answers(b.s.Checkpoint(strings.Repeat("a", most)), api.OK)
			if l := b.again(); len(l) != 1 || len(l[0].Undo) != most || l[0].LSN != 4 {
				t.Error(len(l))
			}
			b.has(1, 3, "a")
		}
	}
}

// TestP11_5CheckpointInOrder: the log, then the pages, then the log's other half;
// the first error of these.
func TestP11_5CheckpointInOrder(t *testing.T) {
	all := 2 + (2*3 + 1 + 2*2 + 1) + 4
	for n := range all + 2 {
		b := begun(t, small)
		b.changes(1, "a")
		b.changes(4, "b")
		lsn, room := b.s.LSN(), b.s.Room()
		if n == 0 {
			b.d.Blow()
		} else {
			b.d.Fuse(n, 1)
		}
		want := api.ErrPower
		if n > all {
			want = api.OK
		}
		b.answers(b.s.Checkpoint("done"), want)
		b.d.On()
		if want == api.ErrPower && (b.s.LSN() != lsn || b.s.Room() != room) {
			t.Error(n, b.s.LSN(), b.s.Room())
		}
		written := page.LSN(stored(t, b.d, b.p, 1)) == 3
		if written != (n > 2+6+1+1) { // its first sector tells its LSN
			t.Error(n, "written", written)
		}
		l := b.opens()
		lasts := n >= 2 // what was written ahead of a Sync that fails is kept
		switched := n >= all
		switch {
		case switched && (len(l) != 1 || l[0].Undo != "done"):
			t.Error(n, l)
		case !switched && lasts && len(l) != 3:
			t.Error(n, l)
		case !lasts && len(l) != 1:
			t.Error(n, l)
		}
	}
}

// TestP11_5CheckpointFlushesTheLog also where no page has changed: what it had
// lasts, though the Switch behind it fails.
func TestP11_5CheckpointFlushesTheLog(t *testing.T) {
	b := begun(t, small)
	b.commits(b.s.Begin(), record.Record{Txn: 7, Kind: record.Commit}, 3)
	b.d.Fuse(3)
	b.answers(b.s.Checkpoint("fails"), api.ErrPower)
	b.d.On()
	b.told(b.opens(), record.Record{LSN: 2, Kind: record.State, Undo: "begun"}, record.Record{LSN: 3, Txn: 7, Kind: record.Commit})
	b.answers(b.s.Checkpoint(""), api.OK)
	b.commits(b.s.Begin(), record.Record{Kind: record.Ended}, 5)
	if n := commands(b.d, func() { b.answers(b.s.Checkpoint(""), api.OK) }); n != 2+4 {
		t.Error(n, "commands")
	}
}

func TestP11_5Room(t *testing.T) {
	b := fresh(t, Plan{Half: 1, Slots: 1, Pages: 1, Frames: 1})
	if b.s.Room() != 0 {
		t.Error(b.s.Room())
	}
	b.answers(b.s.Checkpoint(""), api.OK)
	for _, left := range []int{220, 219, 200, 100, 20, 4, 3, 2, 1, 0} {
		b.answers(b.s.Checkpoint(strings.Repeat("a", 220-left)), api.OK)
		if want := max(0, 242-20-(220-left)-2); b.s.Room() != want {
			t.Error(left, b.s.Room(), want)
		}
		if n, e := b.s.Begin().Commit(record.Record{Kind: record.Commit}); (e == api.OK) != (left >= 18) || (n != 0) != (left >= 18) {
			t.Error(left, n, e)
		}
	}
	if b.s.Room() != 0 {
		t.Error(b.s.Room())
	}
}

func TestP11_5EvictHasPages(t *testing.T) {
	b := begun(t, small)
	for _, n := range append(noPages, 0, 1) {
		b.answers(b.s.Evict(n), api.ErrNone)
		if b.s.Has(n) {
			t.Error("Has", n)
		}
	}
	m := b.s.Begin()
	b.names(m, 1, "a")
	if !b.s.Has(1) || b.s.Pages() != small.Pages {
		t.Error(b.s.Has(1), b.s.Pages())
	}
	b.answers(b.s.Evict(1), api.ErrPins)
	b.commits(m, record.Record{Kind: record.Change}, 3)
	// It is written, and the log first.
	n := commands(b.d, func() { b.answers(b.s.Evict(1), api.OK) })
	if n != 2+3+1+2+1 || b.s.Has(1) {
		t.Error(n, "commands")
	}
	b.told(b.again(), record.Record{LSN: 2, Kind: record.State, Undo: "begun"}, record.Record{LSN: 3, Kind: record.Change, Pages: []record.Changed{{Page: 1, Pieces: piece(0, "\x07\x00\x00\x00\x01\x00\x00a")}}})
	b.has(1, 3, "a")
	b.answers(b.s.Checkpoint(""), api.OK)
	b.changes(2, "b")
	b.d.Blow()
	for range 2 {
		b.answers(b.s.Evict(2), api.ErrPower)
		if !b.s.Has(2) {
			t.Error("gone")
		}
	}
}

// TestP11_5TheLogComesFirst: no page is written ahead of the records that have
// changed it, whichever way it comes to be written.
func TestP11_5TheLogComesFirst(t *testing.T) {
	for name, call := range map[string]func(*base){
		"Evict":      func(b *base) { b.s.Evict(1) },
		"Page":       func(b *base) { m := b.s.Begin(); m.Page(4); m.Abort() },
		"Checkpoint": func(b *base) { b.s.Checkpoint("") },
	} {
		b := begun(t, withFrames(1))
		b.changes(1, "a")
		before := sectors(t, b.d)
		b.d.Fuse(2, 1) // the first command alone is kept
		call(b)
		b.d.On()
		for i, s := range sectors(t, b.d) {
			if (s != before[i]) != (i == 2+b.p.Half) { // the half 1 counts, behind one Switch
				t.Error(name, "sector", i)
			}
		}
		if l := b.opens(); len(l) != 2 {
			t.Error(name, l)
		}
		b.has(1, 3, "a")
	}
}

func TestP11_5PagesThatAreHeld(t *testing.T) {
	b := begun(t, withFrames(2))
	held := func(want ...int) {
		t.Helper()
		for n := range b.p.Pages {
			if b.s.Has(n) != slices.Contains(want, n) {
				t.Error("Has", n, b.s.Has(n))
			}
		}
	}
	for _, x := range [][]int{{0, 0}, {1, 0, 1}, {2, 1, 2}, {1, 1, 2}, {3, 1, 3}} { // the one that was asked longest ago goes
		m := b.s.Begin()
		b.asks(m, x[0])
		m.Abort()
		held(x[1:]...)
	}
}
