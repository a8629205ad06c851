package mini

import (
	"fmt"
	"slices"
	"strings"
	"testing"

	"concordance/api"
	"concordance/device"
	"concordance/page"
	"concordance/patch"
	"concordance/record"
	"concordance/sum"
)

// refusesToOpen tells where Open answers otherwise.
func refusesToOpen(t *testing.T, d *device.Device, p Plan, want api.Errno) {
	t.Helper()
	if s, l, e := Open(d, p); s != nil || len(l) != 0 || e != want {
		t.Errorf("Open: %v %d, not %d", l, e, want)
	}
}

var state = record.Record{LSN: 1, Kind: record.State}

// change of one page by one piece.
func change(lsn, n, at int, data string) record.Record {
	return record.Record{LSN: lsn, Kind: record.Change, Pages: []record.Changed{{Page: n, Pieces: piece(at, data)}}}
}

// slotted lays an image into a slot.
func slotted(d *device.Device, p Plan, slot, n int, bytes string) {
	at := slotsFrom(p) + 3*slot
	d.Write(at, sum.Seal("CT"+sum.Put(n, 2)))
	d.Write(at+1, bytes[:api.Sector])
	d.Write(at+2, bytes[api.Sector:])
	d.Sync()
}

func TestP11_2OpenOfWhatWasNotFormatted(t *testing.T) {
	d := deviceOf(t, small)
	refusesToOpen(t, d, small, api.ErrForm)
	spoil(d)
	refusesToOpen(t, d, small, api.ErrForm)
	Format(d, small)
	d.Write(2, junk(2)) // the first sector of the half that counts
	refusesToOpen(t, d, small, api.ErrCorrupt)
	d.Blow()
	refusesToOpen(t, d, small, api.ErrPower)
}

func TestP11_2LogsThatAreWrong(t *testing.T) {
	put := func(r record.Record) string { return text(t, r) }
	first := put(state)
	kind := func(r record.Record, n int) record.Record { r.Kind = n; return r }
	second, third := record.Record{LSN: 2, Kind: record.Commit}, record.Record{LSN: 3, Kind: record.Ended}
	for name, texts := range map[string][]string{
		"no record":             {"no record"},
		"a byte too few":        {first[:len(first)-1]},
		"a byte too many":       {first + "\x00"},
		"no Kind":               {first[:12] + "\x00" + first[13:]},
		"a Kind too many":       {first[:12] + "\x05" + first[13:]},
		"the second is none":    {first, "no record", put(third)},
		"the last is none":      {first, put(second), put(third)[1:]},
		"a Change first":        {put(kind(state, record.Change))},
		"a Commit first":        {put(kind(state, record.Commit))},
		"an Ended first":        {put(kind(state, record.Ended)), put(kind(second, record.State))},
		"the same LSN":          {first, put(state)},
		"the same LSN later":    {first, put(second), put(second)},
		"one LSN left out":      {first, put(third)},
		"left out later":        {first, put(second), put(record.Record{LSN: 4, Kind: record.Change})},
		"a falling LSN":         {put(record.Record{LSN: 7, Kind: record.State}), put(record.Record{LSN: 6, Kind: record.State})},
		"LSNs from 0 on":        {put(record.Record{LSN: 1, Kind: record.State}), put(record.Record{LSN: 0, Kind: record.State})},
		"no such page":          {first, put(change(2, small.Pages, 0, "a"))},
		"no such page by far":   {first, put(change(2, 65535, 0, "a"))},
		"no such page first":    {put(kind(change(1, small.Pages, 0, "a"), record.State))},
		"no such page later":    {first, put(change(2, 1, 0, "\x07")), put(change(3, small.Pages, 0, "a"))},
		"no such page, no bits": {first, put(record.Record{LSN: 2, Kind: record.Change, Pages: []record.Changed{{Page: small.Pages}}})},
		"behind the body":       {first, put(change(2, 0, bodyBytes, "a"))},
		"far behind it":         {first, put(change(2, 0, 65535, "a"))},
		"over its end":          {first, put(change(2, 0, bodyBytes-2, "abc"))},
		"longer than it":        {first, put(change(2, 0, 0, strings.Repeat("a", bodyBytes+1)))},
	} {
		t.Run(name, func(t *testing.T) {
			d := deviceOf(t, small)
			Format(d, small)
			logged(t, d, small, texts...)
			refusesToOpen(t, d, small, api.ErrCorrupt)
			d.Blow()
			refusesToOpen(t, d, small, api.ErrPower)
		})
	}
}

func TestP11_2LogsAtTheEdges(t *testing.T) {
	most := 1<<48 - 1
	for name, l := range map[string][]record.Record{
		"a State alone":       {state},
		"of the LSN 0":        {{LSN: 0, Kind: record.State}},
		"of the greatest LSN": {{LSN: most - 1, Kind: record.State}, {LSN: most, Kind: record.Change}},
		"all kinds":           {state, {LSN: 2, Kind: record.Change, Undo: "undo", Undone: 3}, {LSN: 3, Txn: 9, Kind: record.Commit}, {LSN: 4, Kind: record.Ended}, {LSN: 5, Kind: record.State, Undo: "state"}},
		"the last page":       {state, change(2, small.Pages-1, 0, "\x07")},
		"up to the body's end": {state, change(2, 0, bodyBytes-1, "a"), change(3, 0, 0, strings.Repeat("b", bodyBytes)),
			{LSN: 4, Kind: record.Change, Pages: []record.Changed{{Page: 0}}}},
	} {
		t.Run(name, func(t *testing.T) {
			b := &base{t: t, p: small, d: deviceOf(t, small)}
			Format(b.d, b.p)
			var texts []string
			for _, r := range l {
				texts = append(texts, text(t, r))
			}
			logged(t, b.d, b.p, texts...)
			b.told(b.opens(), l...)
			if n := b.s.LSN(); n != l[len(l)-1].LSN {
				t.Error("LSN", n)
			}
		})
	}
}

// TestP11_2PagesAreMadeAnew: as the log tells them.
func TestP11_2PagesAreMadeAnew(t *testing.T) {
	for frames := 1; frames <= 4; frames++ {
		b := &base{t: t, p: withFrames(frames), d: deviceOf(t, small)}
		Format(b.d, b.p)
		// Page 1 lacks all, page 2 has the first change; page 3 has the LSN of the
		// second one, page 4 a later one: these stay, whatever they are.
		laid(b.d, b.p, 2, encoded(t, 2, named("aa")))
		laid(b.d, b.p, 3, encoded(t, 3, named("yy")))
		laid(b.d, b.p, 4, encoded(t, 9, named("zz")))
		old := page.Body(strings.Repeat("\x00", api.Page))
		made := page.Body(encoded(t, 0, named("aa")))
		first, second := record.Record{LSN: 2, Kind: record.Change}, record.Record{LSN: 3, Kind: record.Commit}
		for n := 1; n <= 4; n++ {
			first.Pages = append(first.Pages, record.Changed{Page: n, Pieces: diff(old, made)})
			second.Pages = append(second.Pages, record.Changed{Page: n, Pieces: piece(8, "b")})
		}
		logged(t, b.d, b.p, text(t, state), text(t, first), text(t, second))
		b.told(b.opens(), state, first, second)
		for range 2 {
			b.has(0, 0, "")
			b.has(1, 3, "ab")
			b.has(2, 3, "ab")
			b.has(3, 3, "yy")
			b.has(4, 9, "zz")
			b.answers(b.s.Checkpoint(""), api.OK)
		}
		b.told(b.again(), record.Record{LSN: 5, Kind: record.State})
		b.has(1, 3, "ab")
		b.has(2, 3, "ab")
	}
}

// diff in one piece, without asking package patch.
func diff(old, now string) []patch.Piece {
	from, to := 0, len(now)
	for old[from] == now[from] {
		from++
	}
	for old[to-1] == now[to-1] {
		to--
	}
	return piece(from, now[from:to])
}

// TestP11_2PagesMayBeWritten: where there are fewer frames than pages; what is
// written so is as the log tells it, and nothing else is.
func TestP11_2PagesMayBeWritten(t *testing.T) {
	b := &base{t: t, p: withFrames(1), d: deviceOf(t, small)}
	Format(b.d, b.p)
	logged(t, b.d, b.p, text(t, state), text(t, change(2, 0, 0, "\x07")), text(t, change(3, 1, 0, "\x07")), text(t, change(4, 0, 4, "\x01A")))
	before := sectors(t, b.d)
	n := commands(b.d, func() { b.opens() })
	if n != 2*(3+1+2+1) { // page 0 goes for page 1, and that one for page 0
		t.Error(n, "commands")
	}
	if stored(t, b.d, b.p, 1) != encoded(t, 3, page.Page{Kind: 7}) || stored(t, b.d, b.p, 0) != encoded(t, 2, page.Page{Kind: 7}) {
		t.Error("not as the log tells them")
	}
	for i, s := range sectors(t, b.d) {
		if i < slotsFrom(b.p) && s != before[i] {
			t.Error("the log was changed:", i)
		}
	}
	// With frames for all of them none is.
	b.p.Frames = 2
	if n := commands(b.d, func() { b.opens() }); n != 0 {
		t.Error(n, "commands")
	}
}

func TestP11_2TornPages(t *testing.T) {
	b := begun(t, small)
	b.changes(1, "whole")
	b.answers(b.s.Evict(1), api.OK)
	torn := func() {
		laid(b.d, b.p, 1, encoded(t, 3, named("whole"))[:api.Sector]+nothing)
	}
	torn()
	n := commands(b.d, func() { b.opens() })
	if n != 3 { // its two sectors, Sync
		t.Error(n, "commands")
	}
	b.has(1, 3, "whole")
	// One of which no slot tells isn't missed till it is asked, where the log
	// doesn't change it.
	b.answers(b.s.Checkpoint(""), api.OK)
	torn()
	for slot := range b.p.Slots {
		slotted(b.d, b.p, slot, 5, encoded(t, 1, named("five")))
	}
	b.opens()
	b.refuses(b.s.Begin(), 1, api.ErrCorrupt)
	b.has(0, 0, "")
	logged(t, b.d, b.p, text(t, state), text(t, change(2, 1, 0, "a")))
	refusesToOpen(t, b.d, b.p, api.ErrCorrupt)
}

// TestP11_2Order: the log is opened, pages are repaired, then its texts are read.
func TestP11_2Order(t *testing.T) {
	torn := func(d *device.Device) {
		slotted(d, small, 1, 2, encoded(t, 1, named("whole")))
		laid(d, small, 2, encoded(t, 1, named("whole"))[:api.Sector]+nothing)
	}
	repaired := func(d *device.Device) bool {
		return page.Whole(stored(t, d, small, 2))
	}
	d := deviceOf(t, small)
	torn(d)
	refusesToOpen(t, d, small, api.ErrForm)
	if repaired(d) {
		t.Error("ahead of the log's error")
	}
	Format(d, small)
	logged(t, d, small, "no record")
	torn(d)
	d.Fuse(1)
	refusesToOpen(t, d, small, api.ErrPower) // in Repair, ahead of the text that is none
	d.On()
	refusesToOpen(t, d, small, api.ErrCorrupt)
	if !repaired(d) {
		t.Error("behind the texts")
	}
	// Of a text that is wrong, behind one that changes a page: nothing is changed.
	p := withFrames(1)
	logged(t, d, p, text(t, state), text(t, change(2, 0, 0, "\x07")), text(t, change(3, 1, 0, "\x07")), "no record")
	before := sectors(t, d)
	refusesToOpen(t, d, p, api.ErrCorrupt)
	if !slices.Equal(before, sectors(t, d)) {
		t.Error("written")
	}
}

func TestP11_2NothingCanBeChangedYet(t *testing.T) {
	b := begun(t, small)
	b.changes(1, "a")
	b.answers(b.s.Flush(3), api.OK)
	b.again()
	if b.s.LSN() != 3 || b.s.Room() != 0 || b.s.Pages() != small.Pages {
		t.Error(b.s.LSN(), b.s.Room(), b.s.Pages())
	}
	for name, r := range map[string]record.Record{
		"Change": {Kind: record.Change}, "Commit": {Kind: record.Commit}, "Ended": {Kind: record.Ended}, "State": {Kind: record.State}, "Undo": {Kind: record.Change, Undo: "a"},
	} {
		m := b.s.Begin()
		b.names(m, 1, "b "+name)
		b.fails(m, r, api.ErrState)
		b.has(1, 3, "a")
		if name != "Change" {
			b.fails(b.s.Begin(), r, api.ErrState)
		}
	}
	m := b.s.Begin()
	b.asks(m, 1)
	b.commits(m, record.Record{Kind: record.Change}, 0)
	n := commands(b.d, func() {
		for _, lsn := range []int{-1, 0, 3, 4, 1 << 60} {
			b.answers(b.s.Flush(lsn), api.OK)
		}
	})
	if n != 0 {
		t.Error(n, "commands")
	}
	// A Checkpoint that isn't OK doesn't count.
	b.answers(b.s.Checkpoint(strings.Repeat("a", 242*small.Half)), api.ErrLog)
	m = b.s.Begin()
	b.names(m, 1, "c")
	b.fails(m, record.Record{Kind: record.Change}, api.ErrState)
	b.answers(b.s.Flush(9), api.OK)
	b.answers(b.s.Checkpoint(""), api.OK)
	if n := b.changes(1, "d"); n != 5 {
		t.Error(n)
	}
	if n := commands(b.d, func() { b.answers(b.s.Flush(5), api.OK) }); n != 2 {
		t.Error(n, "commands")
	}
}

// TestP11_2LSNsGoOn: behind each Open, as the log's last record has it.
func TestP11_2LSNsGoOn(t *testing.T) {
	b := fresh(t, small)
	want := 1
	for round := range 5 {
		if b.s.LSN() != want {
			t.Error(b.s.LSN(), "not", want)
		}
		b.answers(b.s.Checkpoint(fmt.Sprint(round)), api.OK)
		b.changes(round, fmt.Sprint("lasts ", round))
		b.answers(b.s.Flush(want+2), api.OK)
		b.changes(round, "lost")
		l := b.again()
		if len(l) != 2 || l[0].LSN != want+1 || l[0].Undo != fmt.Sprint(round) || l[1].LSN != want+2 {
			t.Error(l)
		}
		b.has(round, want+2, fmt.Sprint("lasts ", round))
		want += 2
	}
}
