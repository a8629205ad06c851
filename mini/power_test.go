package mini

import (
	"fmt"
	"math/rand/v2"
	"strings"
	"testing"

	"concordance/api"
	"concordance/device"
	"concordance/page"
	"concordance/patch"
	"concordance/record"
)

// moment of a story: a record, and the pages as it and all ahead of it made them.
type moment struct {
	r     record.Record
	pages []page.Page
}

// story of a store, as the document says it.
type story struct {
	t          *testing.T
	name       string
	p          Plan
	d          *device.Device
	s          *Store
	moments    map[int]moment // by LSN
	last       int            // LSN of all
	lasts      int            // up to which LSN the log was flushed
	checkpoint int            // the last one that lasts
	underWay   bool           // the one with the LSN behind the last is
	names      int            // so that no two are the same
}

func (s *story) fails(what ...any) {
	s.t.Helper()
	s.t.Fatal(s.name + ": " + fmt.Sprint(what...))
}

func begins(t *testing.T, name string, p Plan) *story {
	t.Helper()
	s := &story{t: t, name: name, p: p, d: deviceOf(t, p), last: 1, lasts: 1, checkpoint: 1}
	if e := Format(s.d, p); e != api.OK {
		s.fails("Format: ", e)
	}
	s.moments = map[int]moment{1: {state, make([]page.Page, p.Pages)}}
	return s
}

// copied goes its own way; no store is open in it.
func (s *story) copied(name string) *story {
	c := *s
	c.name = s.name + name
	c.d = s.d.Copy()
	c.s = nil
	c.moments = map[int]moment{}
	for lsn, m := range s.moments {
		c.moments[lsn] = m
	}
	return &c
}

// fuse: at which command the power fails, and what is kept then.
type fuse struct {
	at   int
	keep []int
}

// opens the device behind a failure; each fuse lets the power fail in it once
// more.
func (s *story) opens(fuses ...fuse) {
	s.t.Helper()
	for _, f := range fuses {
		s.d.On()
		s.d.Fuse(f.at, f.keep...)
		if _, _, e := Open(s.d, s.p); e != api.OK && e != api.ErrPower {
			s.fails("Open: ", e)
		}
	}
	s.d.On()
	store, l, e := Open(s.d, s.p)
	if e != api.OK {
		s.fails("Open: ", e)
	}
	s.s = store
	s.told(l)
	s.right()
}

// told tells where records are others than they may be. From then on they are
// these.
func (s *story) told(l []record.Record) {
	s.t.Helper()
	first, last := l[0].LSN, l[len(l)-1].LSN
	switched := s.underWay && first == s.last+1 && len(l) == 1
	if !switched && (first != s.checkpoint || last < s.lasts || last > s.last) {
		s.fails("told from ", first, " to ", last, ", not from ", s.checkpoint, " to ", s.lasts, " and perhaps ", s.last, "; under way: ", s.underWay)
	}
	for i, r := range l {
		if r.LSN != first+i || !sameRecord(r, s.moments[r.LSN].r) {
			s.fails(fmt.Sprintf("told %v, not %v", r, s.moments[first+i].r))
		}
	}
	s.checkpoint, s.last, s.lasts, s.underWay = first, last, last, false
}

// right tells where a page is otherwise than the last record has made it.
func (s *story) right() {
	s.t.Helper()
	if s.s.LSN() != s.last {
		s.fails("LSN ", s.s.LSN(), ", not ", s.last)
	}
	for n, want := range s.moments[s.last].pages {
		m := s.s.Begin()
		p, e := m.Page(n)
		m.Abort()
		if e != api.OK || !samePage(p, want) {
			s.fails(fmt.Sprintf("page %d: %v %d, not %v", n, p, e, want))
		}
	}
}

// record of the story's next moment.
func (s *story) records(r record.Record, pages []page.Page) {
	r.LSN = s.last + 1
	s.moments[r.LSN] = moment{r, pages}
}

// changes some pages, and commits that; false, where the power failed.
func (s *story) changes(r record.Record, pages ...int) bool {
	s.t.Helper()
	m := s.s.Begin()
	now := append([]page.Page{}, s.moments[s.last].pages...)
	r.Pages = nil
	for n := range now {
		asked := 0
		for _, x := range pages {
			if x == n {
				asked++
			}
		}
		if asked == 0 {
			continue
		}
		p, e := m.Page(n)
		if e == api.ErrPower {
			m.Abort()
			return false
		}
		if e != api.OK || !samePage(p, now[n]) {
			s.fails(fmt.Sprintf("page %d: %v %d, not %v", n, p, e, now[n]))
		}
		s.names++
		next := page.Page{LSN: s.last + 1, Kind: 3, High: fmt.Sprint(s.names), Entries: append([]page.Entry{{Key: fmt.Sprint(s.names % 7), Value: strings.Repeat("v", s.names%90)}}, p.Entries...)}
		next.Entries = next.Entries[:min(len(next.Entries), 3)]
		if e := m.Set(n, next); e != api.OK {
			s.fails("Set: ", e)
		}
		r.Pages = append(r.Pages, record.Changed{Page: n, Pieces: patch.Diff(bodyOf(s.t, p), bodyOf(s.t, next))})
		now[n] = next
	}
	r.LSN = s.last + 1
	return s.commits(m, r, now)
}

func bodyOf(t *testing.T, p page.Page) string {
	t.Helper()
	if p.Kind == 0 {
		return strings.Repeat("\x00", bodyBytes)
	}
	return page.Body(encoded(t, 0, p))
}

func (s *story) commits(m *Mini, r record.Record, now []page.Page) bool {
	s.t.Helper()
	room := s.s.Room()
	n, e := m.Commit(r)
	switch size := len(text(s.t, r)); {
	case e == api.OK && n == s.last+1 && size <= room:
		s.records(r, now)
		s.last++
	case e == api.ErrPower && s.d.Off():
		return false
	case e != api.ErrLog || size <= room || n != 0:
		s.fails("Commit: ", n, " ", e)
	}
	return true
}

// flushes up to an LSN.
func (s *story) flushes(lsn int) bool {
	s.t.Helper()
	if e := s.s.Flush(lsn); e == api.ErrPower {
		return false
	} else if e != api.OK {
		s.fails("Flush: ", e)
	}
	s.lasts = max(s.lasts, lsn) // perhaps more: evicted pages have the log flushed, too
	return true
}

func (s *story) evicts(n int) bool {
	s.t.Helper()
	e := s.s.Evict(n)
	if e != api.OK && e != api.ErrNone && e != api.ErrPower {
		s.fails("Evict: ", e)
	}
	return e != api.ErrPower
}

func (s *story) checkpoints(text string) bool {
	s.t.Helper()
	s.records(record.Record{Kind: record.State, Undo: text}, s.moments[s.last].pages)
	e := s.s.Checkpoint(text)
	if e == api.ErrPower {
		s.underWay = true
		return false
	}
	if e != api.OK {
		s.fails("Checkpoint: ", e)
	}
	s.last++
	s.checkpoint, s.lasts = s.last, s.last
	return true
}

var storyPlan = Plan{Half: 5, Slots: 2, Pages: 5, Frames: 3}

// play goes through all the calls; at the command at, if it is above 0, the power
// fails.
func (s *story) play(f fuse) {
	s.t.Helper()
	if f.at > 0 {
		s.d.Fuse(f.at, f.keep...)
	}
	_ = s.checkpoints("one") && s.playOn()
}

func (s *story) playOn() bool {
	s.t.Helper()
	changed := record.Record{Kind: record.Change, Txn: 3}
	done := record.Record{Kind: record.Commit, Txn: 3}
	return s.changes(changed, 0) && s.changes(changed, 1, 2) && s.flushes(s.last) &&
		s.changes(done, 1) && s.changes(done) && s.evicts(1) &&
		s.changes(changed, 3, 4, 0) && s.changes(changed, 1) && // pages go for others
		s.checkpoints("two") && s.changes(changed, 2, 3) && s.flushes(s.last-1) && s.flushes(s.last) &&
		s.changes(changed, 2, 4) && s.changes(changed, 0, 1) && s.checkpoints("three") && s.changes(done, 4) && s.flushes(s.last) && s.changes(changed, 0)
}

func keeps() [][]int {
	return [][]int{nil, {1}, {0, 1}, {1, 0}, {1, 1, 0}, {0, 0, 1}, {1, 0, 0}, {0, 1, 1}, {1, 0, 1, 1}, {0, 0, 0, 1}, {1, 1, 1, 0, 0}}
}

// TestP11_6AtEachCommand: the power fails at each command, then in Open at each
// command, whatever is kept; then all goes on.
func TestP11_6AtEachCommand(t *testing.T) {
	for _, frames := range []int{3, 5} {
		p := storyPlan
		p.Frames = frames
		first := begins(t, fmt.Sprint(frames, " frames"), p)
		all := commands(first.d, func() { first.opens(); first.play(fuse{}) })
		if all < 70 {
			t.Error("only", all, "commands")
		}
		for _, keep := range keeps() {
			t.Run(fmt.Sprint(frames, keep), func(t *testing.T) {
				t.Parallel()
				for n := 1; n <= all; n++ {
					s := begins(t, fmt.Sprint(frames, " frames, at ", n, keep), p)
					s.opens()
					s.play(fuse{n, keep})
					s.d.On()
					s.playBehind(n)
				}
			})
		}
	}
}

// playBehind a failure: Open, and Open whose power fails, then all the calls.
func (s *story) playBehind(n int) {
	s.t.Helper()
	c := s.copied("")
	opening := commands(c.d, func() { c.opens() })
	c.play(fuse{})
	for at := 1; at <= opening; at++ {
		keep := keeps()[(n+at)%len(keeps())]
		again := keeps()[(n+5*at)%len(keeps())]
		c := s.copied(fmt.Sprint(", Open at ", at, keep, again))
		c.opens(fuse{at, keep}, fuse{1 + at%opening, again})
		// And in the first Checkpoint.
		c.play(fuse{1 + at, again})
		c.d.On()
		c.opens()
	}
}

// TestP11_6InCheckpoint at each command, of pages that are all changed.
func TestP11_6InCheckpoint(t *testing.T) {
	p := Plan{Half: 12, Slots: 2, Pages: 5, Frames: 5}
	for _, again := range []bool{false, true} { // behind Open, or behind a Checkpoint
		for n := 1; ; n++ {
			over := false
			for _, keep := range keeps() {
				s := begins(t, fmt.Sprint("Checkpoint ", again, " at ", n, keep), p)
				s.opens()
				s.checkpoints("one")
				s.changes(record.Record{Kind: record.Change}, 0, 1, 2)
				s.changes(record.Record{Kind: record.Change}, 2, 3, 4)
				s.flushes(s.last)
				s.changes(record.Record{Kind: record.Change}, 4)
				if again {
					s.flushes(s.last)
					s.d.Blow(keep...)
					s.opens()
				}
				s.d.Fuse(n, keep...)
				over = s.checkpoints("two")
				s.d.On()
				s.opens()
				s.play(fuse{})
			}
			if over {
				break
			}
		}
	}
}

// TestP11_6BetweenCalls: what was appended and not flushed is lost, or was kept;
// what was flushed lasts.
func TestP11_6BetweenCalls(t *testing.T) {
	for _, keep := range keeps() {
		s := begins(t, fmt.Sprint("between ", keep), storyPlan)
		blow := func() {
			t.Helper()
			c := s.copied(" blown")
			c.d.Blow(keep...)
			c.opens()
			c.play(fuse{})
		}
		blow()
		s.opens()
		s.checkpoints("one")
		blow()
		s.changes(record.Record{Kind: record.Change}, 0, 1)
		blow()
		s.changes(record.Record{Kind: record.Change}, 2, 3) // a page goes
		blow()
		s.flushes(s.last)
		blow()
		m := s.s.Begin() // under way
		m.Page(4)
		m.Set(4, named("under way"))
		s.evicts(2)
		blow()
		s.checkpoints("two")
		blow()
		m.Abort()
		blow()
	}
}

func anyKeep(numbers *rand.Rand) []int {
	keep := make([]int, numbers.IntN(7))
	for i := range keep {
		keep[i] = numbers.IntN(2)
	}
	return keep
}

func anyFuse(numbers *rand.Rand) fuse {
	return fuse{1 + numbers.IntN(25), anyKeep(numbers)}
}

// anyStep is a call; false, where the power failed.
func (s *story) anyStep(numbers *rand.Rand) bool {
	s.t.Helper()
	n, x := numbers.IntN(s.p.Pages), numbers.IntN(20)
	switch {
	case x < 10:
		var pages []int
		for range numbers.IntN(s.p.Frames + 1) {
			pages = append(pages, numbers.IntN(s.p.Pages))
		}
		return s.changes(record.Record{Kind: 2 + numbers.IntN(2), Txn: numbers.IntN(9), Undo: strings.Repeat("u", numbers.IntN(3)*numbers.IntN(40))}, pages...)
	case x < 13:
		return s.flushes(s.last - numbers.IntN(3))
	case x < 16:
		return s.evicts(n)
	case x < 18:
		return s.checkpoints(strings.Repeat("c", numbers.IntN(200)))
	}
	m := s.s.Begin() // changes that come to nothing
	defer m.Abort()
	p, e := m.Page(n)
	if e == api.OK && p.Kind != 0 {
		m.Set(n, named("nothing"))
		if x == 18 {
			m.Set(n, p)
			m.Leave(n)
			m.Commit(record.Record{Kind: record.Change})
		}
	}
	return e == api.OK
}

func TestP11_6AnyStory(t *testing.T) {
	numbers := rand.New(rand.NewPCG(11, 6))
	for round := range 250 {
		p := Plan{Half: 3 + numbers.IntN(6), Slots: 1 + numbers.IntN(4), Pages: 1 + numbers.IntN(7), Frames: 1 + numbers.IntN(5)}
		s := begins(t, fmt.Sprint("round ", round, p), p)
		s.opens()
		for range 25 {
			if numbers.IntN(4) > 0 {
				f := anyFuse(numbers)
				s.d.Fuse(f.at, f.keep...)
			}
			on := s.checkpoints("first")
			for step := 0; on && step < 40; step++ {
				on = s.anyStep(numbers)
			}
			if on {
				s.d.Blow(anyKeep(numbers)...)
			}
			var fuses []fuse
			for range numbers.IntN(3) {
				fuses = append(fuses, anyFuse(numbers))
			}
			s.opens(fuses...)
		}
	}
}
