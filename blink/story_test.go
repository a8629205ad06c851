package blink

import (
	"fmt"
	"maps"
	"math/rand/v2"
	"slices"
	"strings"
	"testing"

	"concordance/api"
	"concordance/page"
)

// model of a tree, as the document says it.
type model struct {
	has     map[string]page.Entry
	awaited []Post
	told    map[Post]int // all that ever were, without their Left ones
}

func (m model) copied() model {
	return model{maps.Clone(m.has), slices.Clone(m.awaited), maps.Clone(m.told)}
}

type story struct {
	*base
	name    string
	numbers *rand.Rand
	keys    []string
	now     model // in the changes under way
	done    model // what was committed
}

func tell(t *testing.T, pages, frames int, name string, numbers *rand.Rand) *story {
	t.Helper()
	s := &story{base: started(t, pages, frames), name: name, numbers: numbers, keys: []string{""}}
	for i := range 40 + numbers.IntN(400) {
		key := fmt.Sprintf("%03d", i)
		s.keys = append(s.keys, key+strings.Repeat(string([]byte{byte(i)}), numbers.IntN(62)))
	}
	s.now = model{map[string]page.Entry{}, nil, map[Post]int{}}
	s.done = s.now.copied()
	return s
}

func (s *story) anyKey() string {
	return s.keys[s.numbers.IntN(len(s.keys))]
}

func (s *story) anyEntry() page.Entry {
	return page.Entry{Key: s.anyKey(), Value: strings.Repeat("v", s.numbers.IntN(101)), Marked: s.numbers.IntN(3) == 0}
}

// comes: Posts that a call has answered; they are awaited, where they aren't
// forgotten at once.
func (s *story) comes(l []Post, forgotten bool) {
	for _, x := range l {
		s.now.told[Post{x.Level, 0, x.Right, x.Key}] = 1
	}
	if !forgotten {
		s.now.awaited = append(s.now.awaited, l...)
	}
}

// full: where a call finds no page, the changes are aborted.
func (s *story) full(what string, e, want api.Errno) bool {
	s.t.Helper()
	if e == want {
		return false
	}
	if e != api.ErrFull || want != api.OK {
		s.t.Fatalf("%s, %s: %d, not %d", s.name, what, e, want)
	}
	s.aborts()
	s.now = s.done.copied()
	return true
}

func (s *story) put(forgotten bool) {
	s.t.Helper()
	e := s.anyEntry()
	want := api.OK
	if _, there := s.now.has[e.Key]; there {
		want = api.ErrExists
	}
	at, missed, x := Seek(s.m, root, e.Key, 0)
	s.answers(x, api.OK)
	l, x := Put(s.m, root, at, e)
	if s.full("Put", x, want) || x != api.OK {
		return
	}
	s.now.has[e.Key] = e
	s.comes(l, forgotten)
	s.comes(missed, s.numbers.IntN(4) > 0)
}

func (s *story) insert() {
	s.t.Helper()
	e := s.anyEntry()
	want := api.OK
	if _, there := s.now.has[e.Key]; there {
		want = api.ErrExists
	}
	x := Insert(s.m, root, e)
	if s.full("Insert", x, want) || x != api.OK {
		return
	}
	s.now.has[e.Key] = e
	if _, missed, x := Seek(s.m, root, e.Key, 0); len(missed) > 0 || x != api.OK {
		s.t.Fatal(s.name, "Insert has left", missed, x)
	}
}

func (s *story) remove() {
	s.t.Helper()
	key := s.anyKey()
	want := api.OK
	if _, there := s.now.has[key]; !there {
		want = api.ErrNone
	}
	s.answers(Remove(s.m, root, key), want)
	delete(s.now.has, key)
}

// settle any of the Posts that are awaited; then a second time nothing comes of it.
func (s *story) settle() {
	s.t.Helper()
	if len(s.now.awaited) == 0 {
		return
	}
	i := s.numbers.IntN(len(s.now.awaited))
	x := s.now.awaited[i]
	l, e := Settle(s.m, root, x)
	if s.full("Settle", e, api.OK) {
		return
	}
	s.now.awaited = slices.Delete(s.now.awaited, i, i+1)
	s.comes(l, false)
	before := missing(s.rows())
	if again, e := Settle(s.m, root, x); e != api.OK || len(again) > len(l) || !slices.Equal(missing(s.rows()), before) {
		s.t.Fatal(s.name, x, l, again, e)
	}
}

// again: the power fails behind a Flush; what was committed lasts.
func (s *story) again() {
	s.t.Helper()
	s.answers(s.s.Flush(s.s.LSN()), api.OK)
	s.d.Blow()
	s.d.On()
	s.opens()
	s.now = s.done.copied()
}

func (s *story) anyStep() {
	s.t.Helper()
	switch x := s.numbers.IntN(40); {
	case x < 14:
		s.put(x%4 == 0)
	case x < 16:
		s.insert()
	case x < 20:
		s.remove()
	case x < 28:
		s.settle()
	case x < 30:
		if n := len(s.now.awaited); n > 0 { // one is forgotten
			s.now.awaited = slices.Delete(s.now.awaited, n/2, n/2+1)
		}
	case x < 38:
		s.commits()
		s.done = s.now.copied()
	case x < 39:
		s.aborts()
		s.now = s.done.copied()
	default:
		s.again()
	}
}

// right tells where the tree is otherwise than the story says.
func (s *story) right() {
	s.t.Helper()
	rows := s.rows()
	var want []page.Entry
	for _, key := range slices.Sorted(maps.Keys(s.now.has)) {
		want = append(want, s.now.has[key])
	}
	s.has(rows, want)
	for _, x := range missing(rows) {
		if s.now.told[Post{x.Level, 0, x.Right, x.Key}] == 0 {
			s.t.Fatal(s.name, "nobody was told", x)
		}
	}
	for range 3 {
		key := s.anyKey()
		for level := range rows {
			s.leads(rows, key, level)
			s.leads(rows, key+"\x00", level)
		}
		if e, there := s.now.has[key]; there {
			s.gets(e)
		} else {
			s.getsNone(key, api.OK)
		}
	}
	if s.t.Failed() {
		s.t.Fatal(s.name)
	}
}

// settleAll that is awaited or missed, in any order: nothing is missed then.
func (s *story) settleAll() {
	s.t.Helper()
	s.commits()
	for _, key := range s.keys {
		_, missed, e := Seek(s.m, root, key, 0)
		s.answers(e, api.OK)
		s.comes(missed, false)
	}
	for len(s.now.awaited) > 0 {
		s.settle()
		s.commits()
		s.done = s.now.copied()
	}
	if l := missing(s.rows()); len(l) > 0 {
		s.t.Fatal(s.name, l)
	}
}

func TestP14_4AnyStory(t *testing.T) {
	numbers := rand.New(rand.NewPCG(14, 4))
	levels := map[int]int{}
	for round := range 40 {
		s := tell(t, 400, 20+numbers.IntN(45), fmt.Sprint("round ", round), numbers)
		for range 250 {
			s.anyStep()
			s.right()
		}
		levels[len(s.rows())]++
		s.settleAll()
		s.right()
	}
	if levels[3]+levels[4]+levels[5] < 10 {
		t.Error("trees of too few levels", levels)
	}
}

// TestP14_4FewPages: ErrFull comes again and again, in the midst of all.
func TestP14_4FewPages(t *testing.T) {
	numbers := rand.New(rand.NewPCG(14, 5))
	for round := range 40 {
		s := tell(t, 3+numbers.IntN(20), 64, fmt.Sprint("round ", round), numbers)
		for range 120 {
			s.anyStep()
			s.right()
		}
	}
}

// TestP14_4NothingEverSettled: but for the root's splits no node above is told
// anything, and all is found by the Rights, also with few frames.
func TestP14_4NothingEverSettled(t *testing.T) {
	for _, rising := range []int{1, -1, 7} {
		b := started(t, 200, 5)
		for i := range 150 {
			n := ((i*rising)%150 + 150) % 150
			e := sized(long(fmt.Sprintf("%03d", n)), 160)
			at, _, x := Seek(b.m, root, e.Key, 0)
			b.answers(x, api.OK)
			if _, x := Put(b.m, root, at, e); x != api.OK {
				t.Fatal(i, x)
			}
			b.commits()
		}
		rows := b.rows()
		if l := missing(rows); len(l) < 40 || len(rows) != 2 {
			t.Error(rising, len(rows), len(l))
		}
		for n := range 150 {
			key := long(fmt.Sprintf("%03d", n))
			b.gets(sized(key, 160))
			for level := range rows {
				b.leads(rows, key, level)
			}
		}
		b.untouched()
		b.reopens(64)
		b.inserts(page.Entry{Key: long("zzz")}) // comes by them all
		if l := missing(b.rows()); rising == 1 && len(l) != 0 {
			t.Error(l)
		}
	}
}

// TestP14_4Inserts alone leave nothing that is missed.
func TestP14_4Inserts(t *testing.T) {
	for _, rising := range []int{1, -1, 7} {
		b := started(t, 700, 20)
		for i := range 300 {
			n := ((i*rising)%300 + 300) % 300
			b.inserts(sized(long(fmt.Sprintf("%03d", n)), 160))
			b.commits()
			if rows := b.rows(); len(missing(rows)) != 0 {
				t.Fatal(rising, i, missing(rows))
			}
		}
		if rows := b.rows(); len(rows) < 4 {
			t.Error(rising, len(rows))
		}
		for n := range 300 {
			b.gets(sized(long(fmt.Sprintf("%03d", n)), 160))
		}
		for n := range 300 {
			b.answers(Remove(b.m, root, long(fmt.Sprintf("%03d", n))), api.OK)
			b.commits()
		}
		rows := b.rows() // its nodes stay
		b.has(rows, nil)
		if l := missing(rows); len(l) != 0 || len(rows[0]) < 100 {
			t.Error(l, len(rows[0]))
		}
		b.inserts(page.Entry{Key: "005"})
		b.gets(page.Entry{Key: "005"})
	}
}
