package scan

import (
	"fmt"
	"math/rand/v2"
	"slices"
	"strings"
	"testing"

	"concordance/api"
	"concordance/blink"
	"concordance/mini"
	"concordance/page"
)

// story of a tree that is changed while cursors go over it.
type story struct {
	*base
	name    string
	numbers *rand.Rand
	keys    []string
	most    int // bytes of a value
	has     map[string]page.Entry
	awaited []blink.Post
	walks   []*walk
	over    int // walks that came to their ends
}

// walk of a cursor, and what is known of it from outside.
type walk struct {
	c        *Cursor
	from, to string
	at       int    // the page that it must visit next
	next     string // what is told next begins here
	stays    map[string]page.Entry
	told     []page.Entry
	steps    int
	over     bool
}

func tell(t *testing.T, name string, numbers *rand.Rand) *story {
	t.Helper()
	s := &story{base: started(t, 400, 20+numbers.IntN(40)), name: name, numbers: numbers, keys: []string{""}, has: map[string]page.Entry{}}
	longer := numbers.IntN(2) // or are all keys short?
	for i := range 10 + numbers.IntN(300) {
		s.keys = append(s.keys, fmt.Sprintf("%03d", i)+strings.Repeat("_", longer*(40+numbers.IntN(22))))
	}
	s.most = numbers.IntN(101)
	for range numbers.IntN(len(s.keys)) {
		s.put()
		s.commits()
	}
	return s
}

func (s *story) anyKey() string {
	return s.keys[s.numbers.IntN(len(s.keys))]
}

// put an entry; its Posts are settled at once, later, or never.
func (s *story) put() {
	s.t.Helper()
	e := page.Entry{Key: s.anyKey(), Value: strings.Repeat("v", s.numbers.IntN(s.most+1)), Marked: s.numbers.IntN(3) == 0}
	if _, there := s.has[e.Key]; there {
		return
	}
	if s.numbers.IntN(4) == 0 {
		s.inserts(e)
	} else {
		s.awaited = append(s.awaited, s.puts(e)...)
	}
	s.has[e.Key] = e
}

func (s *story) remove() {
	s.t.Helper()
	key := s.anyKey()
	if _, there := s.has[key]; there {
		s.removes(key)
		delete(s.has, key)
		for _, w := range s.walks {
			delete(w.stays, key)
		}
	}
}

func (s *story) settle() {
	s.t.Helper()
	if len(s.awaited) > 0 {
		i := s.numbers.IntN(len(s.awaited))
		more, e := blink.Settle(s.m, root, s.awaited[i])
		s.answers(e, api.OK)
		s.awaited = append(slices.Delete(s.awaited, i, i+1), more...)
	}
}

// open a cursor: of its bounds one in three is empty.
func (s *story) open() {
	bound := func() string {
		switch s.numbers.IntN(6) {
		case 0, 1:
			return ""
		case 2:
			return s.anyKey() + "\x00"
		}
		return s.anyKey()
	}
	w := &walk{from: bound(), to: bound(), at: root, stays: map[string]page.Entry{}}
	w.c, w.next = Open(root, w.from, w.to), w.from
	for key, e := range s.has {
		w.stays[key] = e
	}
	s.walks = append(s.walks, w)
}

// expected of the next Step, by the page that it visits: what it tells, whether
// ready is asked, and whether that is all; the walk goes on by it.
func (s *story) expected(w *walk) ([]page.Entry, int, bool) {
	s.t.Helper()
	if w.over {
		return nil, 0, true
	}
	p := s.page(w.at)
	switch {
	case p.High != "" && w.next >= p.High:
		w.at = p.Right
	case p.Level > 0:
		for _, e := range p.Entries {
			if e.Key <= w.next {
				w.at = int(e.Value[0])<<8 | int(e.Value[1])
			}
		}
	default:
		l, at := between(p.Entries, w.next, w.to), w.at
		w.over = p.High == "" || w.to != "" && w.to <= p.High
		w.at, w.next = p.Right, p.High
		return l, at, w.over
	}
	return nil, 0, false
}

// step of any walk, in these changes or in others beside them.
func (s *story) step() {
	s.t.Helper()
	if len(s.walks) == 0 {
		return
	}
	i := s.numbers.IntN(len(s.walks))
	w := s.walks[i]
	if s.numbers.IntN(8) == 0 && !w.over && s.page(w.at).Level == 0 && s.page(w.at).High == "" {
		s.tellsNot(w.c, func(*mini.Mini, int) api.Errno { return api.ErrNone }, api.ErrNone)
	}
	want, at, over := s.expected(w)
	asked := 0
	l, o, e := w.c.Step(s.m, func(m *mini.Mini, n int) api.Errno { asked = n; return api.OK })
	if !slices.Equal(l, want) || o != over || e != api.OK || asked != at {
		s.t.Fatalf("%s: %q %t %d %d, not %q %t %d", s.name, keysOf(l), o, e, asked, keysOf(want), over, at)
	}
	for _, e := range l {
		if n := len(w.told); n > 0 && w.told[n-1].Key >= e.Key || s.has[e.Key] != e {
			s.t.Fatalf("%s: %v behind %v", s.name, e, w.told)
		}
		w.told = append(w.told, e)
	}
	if w.steps++; over {
		s.ends(w)
		s.walks = slices.Delete(s.walks, i, i+1)
	}
}

// ends: nothing is lost of what was there all the while.
func (s *story) ends(w *walk) {
	s.t.Helper()
	s.over++
	for key, e := range w.stays {
		if key >= w.from && (w.to == "" || key < w.to) != slices.Contains(w.told, e) {
			s.t.Fatalf("%s: from %q to %q: %q of %q", s.name, w.from, w.to, key, keysOf(w.told))
		}
	}
	for _, e := range w.told {
		if e.Key < w.from || w.to != "" && e.Key >= w.to {
			s.t.Fatalf("%s: from %q to %q: %q", s.name, w.from, w.to, e.Key)
		}
	}
	s.tells(w.c, true)
}

func (s *story) anyStep() {
	s.t.Helper()
	switch x := s.numbers.IntN(40); {
	case x < 10:
		s.put()
	case x < 13:
		s.remove()
	case x < 16:
		s.settle()
	case x < 18:
		s.open()
	default:
		s.step()
		return
	}
	s.commits()
}

// rows: all leaves and pages are told as they stand in the tree.
func (s *story) rows() {
	s.t.Helper()
	nodes := s.nodes()
	if l := slices.Collect(All(s.m, root)); !slices.Equal(l, s.entries()) || len(l) != len(s.has) {
		s.t.Fatalf("%s: %q", s.name, keysOf(l))
	}
	var want []int
	for _, row := range nodes {
		for _, x := range row {
			want = append(want, x.at)
		}
	}
	if l, e := Pages(s.m, root); !slices.Equal(l, want) || e != api.OK {
		s.t.Fatalf("%s: %v %d, not %v", s.name, l, e, want)
	}
	s.untouched()
}

func TestP15_1AnyStory(t *testing.T) {
	numbers := rand.New(rand.NewPCG(15, 1))
	over, levels := 0, map[int]int{}
	for round := range 60 {
		s := tell(t, fmt.Sprint("round ", round), numbers)
		for range 500 {
			s.anyStep()
		}
		s.rows()
		levels[len(s.nodes())]++
		for range 5000 {
			s.step()
		}
		if len(s.walks) > 0 {
			t.Fatal(s.name, "it goes on and on")
		}
		over += s.over
	}
	if over < 1000 || levels[2] < 10 || levels[3] < 10 || levels[4] < 1 {
		t.Error(over, levels)
	}
}
