package buffer

import (
	"fmt"
	"maps"
	"math/rand/v2"
	"slices"
	"strings"
	"testing"

	"concordance/api"
	"concordance/bitmap"
	"concordance/page"
)

// where changes wait.
type where struct{ index, n int }

// known is what is known of the buffer and its leaves from outside.
type known struct {
	waits  map[where][]Op
	leaves map[int]map[string]bool // by their keys, whether they are marked
	flags  map[int]bitmap.Flags
}

func (k known) copied() known {
	c := known{map[where][]Op{}, map[int]map[string]bool{}, maps.Clone(k.flags)}
	for at, l := range k.waits {
		c.waits[at] = slices.Clone(l)
	}
	for n, l := range k.leaves {
		c.leaves[n] = maps.Clone(l)
	}
	return c
}

func (k known) pending() int {
	n := 0
	for _, l := range k.waits {
		n += len(l)
	}
	return n
}

// story of a buffer, held against what is known.
type story struct {
	*base
	numbers   *rand.Rand
	keys      []string
	places    []where
	now, done known
	merged    int
	full      int
}

func tell(t *testing.T, numbers *rand.Rand) *story {
	t.Helper()
	leaves := 1 + numbers.IntN(8)
	s := &story{base: started(t, 250, 64, leaves), numbers: numbers}
	s.now = known{map[where][]Op{}, map[int]map[string]bool{}, map[int]bitmap.Flags{}}
	for i := range leaves {
		s.places = append(s.places, where{numbers.IntN(65536), leafAt + i})
		s.now.leaves[leafAt+i] = map[string]bool{}
		s.now.flags[leafAt+i] = bitmap.Flags{Class: 3}
	}
	longest := 1 + numbers.IntN(60)
	for i := range 5 + numbers.IntN(40) {
		s.keys = append(s.keys, fmt.Sprintf("%03d", i)+strings.Repeat("_", numbers.IntN(longest)))
	}
	s.done = s.now.copied()
	return s
}

func (s *story) anyPlace() where {
	return s.places[s.numbers.IntN(len(s.places))]
}

func (s *story) add() {
	s.t.Helper()
	at := s.anyPlace()
	x := Op{1 + s.numbers.IntN(4), s.keys[s.numbers.IntN(len(s.keys))]}
	most := s.numbers.IntN(60)
	f := s.now.flags[at.n]
	room := []int{0, 64, 128, 256}[f.Class]
	for _, y := range append(slices.Clone(s.now.waits[at]), x) {
		if y.Kind == Insert {
			room -= 3 + len(y.Key)
		}
	}
	want := api.OK
	switch {
	case f.Closed:
		want = api.ErrState
	case s.now.pending() >= most || x.Kind == Insert && room < 0:
		want = api.ErrFull
		s.full++
	}
	s.addsNot(at.index, at.n, x, most, want)
	if want == api.OK {
		s.now.waits[at] = append(s.now.waits[at], x)
		f.Buffered = true
		s.now.flags[at.n] = f
	}
}

// release what waits for a page: Merge, or Drop.
func (s *story) release(merge bool) {
	s.t.Helper()
	at := s.anyPlace()
	l := s.now.waits[at]
	delete(s.now.waits, at)
	f := s.now.flags[at.n]
	if !f.Buffered {
		l = nil
	}
	if merge {
		s.merges(at.index, at.n, len(l))
		for _, x := range l {
			changed(s.now.leaves[at.n], x)
		}
		if f.Buffered {
			s.merged += len(l)
			f.Class = s.class(at.n)
		}
	} else {
		s.drops(at.index, at.n, len(l))
	}
	f.Buffered = false
	s.now.flags[at.n] = f
}

// changed leaf, as the document says.
func changed(l map[string]bool, x Op) {
	was, there := l[x.Key]
	switch {
	case x.Kind == Insert:
		l[x.Key] = false
	case x.Kind == Purge && was:
		delete(l, x.Key)
	case there && x.Kind != Purge:
		l[x.Key] = x.Kind == Mark
	}
}

// class of what a leaf has free.
func (s *story) class(n int) int {
	free := 489
	for key := range s.now.leaves[n] {
		free -= 3 + len(key)
	}
	switch {
	case free < 0:
		s.t.Fatal("overflows")
	case free < 64:
		return 0
	case free < 128:
		return 1
	case free < 256:
		return 2
	}
	return 3
}

// alter a leaf for which nothing waits; sometimes it is Closed then.
func (s *story) alter() {
	s.t.Helper()
	at := s.anyPlace()
	f := s.now.flags[at.n]
	if f.Buffered {
		return
	}
	x := Op{2 + s.numbers.IntN(3), s.keys[s.numbers.IntN(len(s.keys))]}
	p, e := Apply(s.page(at.n), x)
	s.answers(e, api.OK)
	s.m.Page(at.n)
	s.answers(s.m.Set(at.n, p), api.OK)
	changed(s.now.leaves[at.n], x)
	f.Class, f.Closed = s.class(at.n), s.numbers.IntN(10) == 0
	s.flags(at.n, f)
	s.now.flags[at.n] = f
}

func (s *story) check() {
	s.t.Helper()
	s.pending(s.now.pending())
	first, any := where{}, false
	for at, l := range s.now.waits {
		if len(l) > 0 && (!any || at.index < first.index || at.index == first.index && at.n < first.n) {
			first, any = at, true
		}
	}
	if any {
		s.first(first.index, first.n)
	} else {
		s.firstNone(api.OK)
	}
	for _, at := range s.places {
		s.lists(at.index, at.n, s.now.waits[at]...)
		s.lists(at.index+1, at.n)
		s.hasFlags(at.n, s.now.flags[at.n])
		want := leaf()
		for _, key := range slices.Sorted(maps.Keys(s.now.leaves[at.n])) {
			want.Entries = append(want.Entries, page.Entry{Key: key, Marked: s.now.leaves[at.n][key]})
		}
		s.is(at.n, want)
	}
}

func (s *story) goOn() {
	s.t.Helper()
	switch x := s.numbers.IntN(40); {
	case x < 24:
		s.add()
	case x < 27:
		s.release(true)
	case x < 28:
		s.release(false)
	case x < 32:
		s.alter()
	case x < 38:
		s.commits()
		s.done = s.now.copied()
	case x < 39:
		s.aborts()
		s.now = s.done.copied()
	default: // the power fails
		s.answers(s.s.Flush(s.s.LSN()), api.OK)
		s.d.Blow()
		s.d.On()
		s.opens()
		s.now = s.done.copied()
	}
}

func TestP17AnyStory(t *testing.T) {
	numbers := rand.New(rand.NewPCG(17, 3))
	merged, full := 0, 0
	for round := range 40 {
		s := tell(t, numbers)
		for i := range 300 {
			s.goOn()
			if i%10 == 0 {
				s.check()
			}
			if t.Failed() {
				t.Fatal("round", round, i)
			}
		}
		s.check()
		for _, at := range s.places {
			s.merges(at.index, at.n, len(s.now.waits[at]))
		}
		s.pending(0)
		merged, full = merged+s.merged, full+s.full
	}
	if merged < 500 || full < 500 {
		t.Error("tells too little", merged, full)
	}
}
