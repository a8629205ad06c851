package index

import (
	"fmt"
	"maps"
	"math/rand/v2"
	"slices"
	"strings"
	"testing"

	"concordance/api"
	"concordance/blink"
	"concordance/buffer"
	"concordance/mini"
	"concordance/page"
)

// tree is an index of a story, and what is known of it from outside.
type tree struct {
	x   Index
	has map[string]page.Entry
}

// under way is a work of a story.
type underWay struct {
	w     *Work
	at    *tree
	kind  int
	key   string
	value string
	over  bool
	steps int
}

// story of indexes that share a buffer, whose works are done side by side, Step by
// Step, held against a model of all that were Applied.
type story struct {
	*base
	numbers *rand.Rand
	keys    []string
	trees   []*tree
	works   []*underWay
	most    int // of changes that may wait
	spare   int // a page from which on none is used

	waited, again, exists, pins, closed, leftBehind, levels int
}

func tell(t *testing.T, numbers *rand.Rand) *story {
	t.Helper()
	s := &story{base: started(t, 500, 64, true), numbers: numbers, most: []int{0, 1, 5, 48, 1000}[numbers.IntN(5)], spare: 400}
	shortest := []int{0, 0, 30, 61}[numbers.IntN(4)]
	for i := range 10 + numbers.IntN(250) {
		s.keys = append(s.keys, fmt.Sprintf("%03d", i)+strings.Repeat("_", shortest+numbers.IntN(62-shortest)))
	}
	s.keys = append(s.keys, "")
	s.trees = []*tree{{s.x, map[string]page.Entry{}}}
	for i := range numbers.IntN(3) {
		n, e := blink.Create(s.m)
		s.answers(e, api.OK)
		s.trees = append(s.trees, &tree{Index{ID: id + []int{-7, 65000}[i], Root: n, Waits: i == 0}, map[string]page.Entry{}})
	}
	s.commits()
	return s
}

// held tells of each page whether it is: all, none, some, or those that are.
func (s *story) held() func(int) bool {
	switch s.numbers.IntN(5) {
	case 0:
		return yes
	case 1:
		return nil
	case 2:
		return s.s.Has
	}
	odd := s.numbers.IntN(2)
	return func(n int) bool { return n%2 == odd }
}

func (s *story) begin() {
	u := &underWay{at: s.trees[s.numbers.IntN(len(s.trees))], kind: 1 + s.numbers.IntN(4), key: s.keys[s.numbers.IntN(len(s.keys))]}
	if s.numbers.IntN(2) == 0 {
		u.kind = insert
	}
	if !u.at.x.Waits {
		u.value = strings.Repeat("v", s.numbers.IntN(101))
	}
	u.w = Start(u.at.x, buffer.Op{Kind: u.kind, Key: u.key}, u.value, s.most)
	s.works = append(s.works, u)
}

// applied: the model has the work's change, too.
func (s *story) applied(u *underWay) {
	e, there := u.at.has[u.key]
	switch {
	case u.kind == insert && there:
		e.Marked = false
		u.at.has[u.key] = e
	case u.kind == insert:
		u.at.has[u.key] = page.Entry{Key: u.key, Value: u.value}
	case there && u.kind == purge && e.Marked:
		delete(u.at.has, u.key)
	case there && u.kind != purge:
		e.Marked = u.kind == mark
		u.at.has[u.key] = e
	}
}

// step of any work; sometimes few frames are left.
func (s *story) step() {
	s.t.Helper()
	if len(s.works) == 0 {
		return
	}
	i := s.numbers.IntN(len(s.works))
	u := s.works[i]
	var other *mini.Mini
	if s.numbers.IntN(10) == 0 {
		other = s.s.Begin()
		for n := range s.p.Frames - 1 - s.numbers.IntN(8) {
			other.Page(s.spare + n)
		}
	}
	was := u.w.Applied()
	p, e := u.w.Step(s.m, s.held())
	other.Abort()
	u.steps++
	if u.steps > 200 {
		s.t.Fatal("it doesn't end")
	}
	_, there := u.at.has[u.key]
	switch {
	case e == api.ErrExists && u.kind == insert && there && !was:
		s.exists++
		s.aborts()
		s.ends(i)
	case e == api.ErrPins && other != nil:
		s.pins++
		s.aborts()
	case e != api.OK:
		s.t.Fatalf("%v: %d", u, e)
	case p.Again:
		s.again++
		if was || p.Applied || p.Over {
			s.t.Error(u, p)
		}
		s.aborts()
	default:
		s.commits()
		s.went(i, p, was)
	}
	if e != api.OK && (p != (Progress{}) || u.w.Applied() != was) {
		s.t.Error(u, p, e)
	}
}

// went on by a Step.
func (s *story) went(i int, p Progress, was bool) {
	s.t.Helper()
	u := s.works[i]
	if p.Applied == was && was || u.w.Applied() != (was || p.Applied) || p.Over && !u.w.Applied() {
		s.t.Error(u, p, was)
	}
	if p.Applied {
		s.applied(u)
	}
	if u.w.Applied() && !p.Over && s.numbers.IntN(4) == 0 { // it is left behind
		s.leftBehind++
		s.ends(i)
		return
	}
	if p.Over {
		again, e := u.w.Step(s.m, nil)
		if again != (Progress{Over: true}) || e != api.OK {
			s.t.Error(again, e)
		}
		s.ends(i)
	}
}

func (s *story) ends(i int) {
	s.works = slices.Delete(s.works, i, i+1)
}

// reads any leaf of any index, as others do.
func (s *story) reads() {
	s.t.Helper()
	t := s.trees[s.numbers.IntN(len(s.trees))]
	s.x = t.x
	l := s.rowOf()
	n := l[s.numbers.IntN(len(l))]
	p, e := t.x.Whole(s.m, n)
	s.answers(e, api.OK)
	s.answers(t.x.Ready(s.m, n), api.OK)
	if q := s.page(n); !slices.Equal(p.Entries, q.Entries) {
		s.t.Error(p.Entries, q.Entries)
	}
	s.commits()
}

// merges what waits first, as is done when nobody asks.
func (s *story) merges() {
	s.t.Helper()
	index, n, any, e := buffer.First(s.m)
	s.answers(e, api.OK)
	if any {
		k, e := buffer.Merge(s.m, index, n)
		s.answers(e, api.OK)
		if k == 0 {
			s.t.Error("nothing waits", index, n)
		}
	}
	s.commits()
}

// check all that is known.
func (s *story) check() {
	s.t.Helper()
	waiting := 0
	for _, t := range s.trees {
		s.x = t.x
		var want []page.Entry
		for _, key := range slices.Sorted(maps.Keys(t.has)) {
			want = append(want, t.has[key])
		}
		s.entries(want...)
		waiting += s.soundIn(t.x)
	}
	s.pending(waiting)
	if waiting > 0 {
		s.waited++
	}
	if waiting > s.most {
		s.t.Error("too many wait", waiting)
	}
}

// soundIn one index of several: how many changes wait for its leaves.
func (s *story) soundIn(x Index) int {
	s.t.Helper()
	s.flags(x.Root, noFlags())
	nodes := s.nodes()
	s.levels = max(s.levels, len(nodes))
	shut, waiting := closed(nodes), 0
	for _, is := range shut {
		if is {
			s.closed++
			break
		}
	}
	for _, y := range nodes[0] {
		if y.at == x.Root || !x.Waits {
			s.flags(y.at, noFlags())
			continue
		}
		l, e := buffer.List(s.m, x.ID, y.at)
		s.answers(e, api.OK)
		f := noFlags()
		f.Class, f.Buffered, f.Closed = classOf(y.p), len(l) > 0, shut[y.at]
		s.flags(y.at, f)
		waiting += len(l)
	}
	return waiting
}

func (s *story) goOn() {
	s.t.Helper()
	switch x := s.numbers.IntN(100); {
	case x < 20 && len(s.works) < 8:
		s.begin()
	case x < 92:
		s.step()
	case x < 95:
		s.reads()
	case x < 97:
		s.merges()
	case x < 98: // pages that aren't in memory
		for n := range s.spare {
			s.s.Evict(n)
		}
	case x < 99:
		s.m.Page(rootAt)
		s.aborts()
	default: // the power fails; all works are left behind
		s.answers(s.s.Flush(s.s.LSN()), api.OK)
		s.d.Blow()
		s.d.On()
		s.opens()
		s.works = nil
	}
}

func TestP18_3AnyStory(t *testing.T) {
	numbers := rand.New(rand.NewPCG(18, 3))
	var waited, again, exists, pins, closed, leftBehind, levels int
	for round := range 30 {
		s := tell(t, numbers)
		for i := range 1500 {
			s.goOn()
			if i%15 == 0 {
				s.check()
			}
			if t.Failed() {
				t.Fatal("round", round, i)
			}
		}
		s.check()
		for n, e := buffer.Pending(s.m); n > 0 && e == api.OK; n, e = buffer.Pending(s.m) {
			s.merges()
		}
		s.check()
		waited, again, exists, pins = waited+s.waited, again+s.again, exists+s.exists, pins+s.pins
		closed, leftBehind, levels = closed+s.closed, leftBehind+s.leftBehind, max(levels, s.levels)
	}
	if waited < 300 || again < 300 || exists < 300 || pins < 50 || closed < 300 || leftBehind < 100 || levels < 3 {
		t.Error("tells too little", waited, again, exists, pins, closed, leftBehind, levels)
	}
}
