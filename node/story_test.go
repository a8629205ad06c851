package node

import (
	"fmt"
	"maps"
	"math/rand/v2"
	"slices"
	"strings"
	"testing"

	"concordance/api"
	"concordance/page"
)

// story is a node, and the entries that it has by the document.
type story struct {
	t    *testing.T
	name string
	p    page.Page
	has  map[string]page.Entry
}

func anyKey(numbers *rand.Rand) string {
	key := strings.Repeat(string([]byte{byte(numbers.IntN(3)) * 127}), numbers.IntN(4))
	return key + string([]byte{byte('a' + numbers.IntN(5))})[:numbers.IntN(2)]
}

func (s *story) entries() []page.Entry {
	var l []page.Entry
	for _, key := range slices.Sorted(maps.Keys(s.has)) {
		l = append(l, s.has[key])
	}
	return l
}

func (s *story) free() int {
	free := 489 - len(s.p.High)
	for _, e := range s.has {
		free -= 3 + len(e.Key) + len(e.Value)
	}
	return free
}

// becomes tells where a call answers otherwise than want; the node is its answer.
func (s *story) becomes(what string, p page.Page, e, want api.Errno) {
	s.t.Helper()
	if e != want {
		s.t.Fatalf("%s, %s: %d, not %d", s.name, what, e, want)
	}
	if e != api.OK {
		refuses(s.t, p, e, want)
		return
	}
	s.p = p
}

func (s *story) insert(e page.Entry) {
	_, there := s.has[e.Key]
	want := api.OK
	switch {
	case s.p.High != "" && e.Key >= s.p.High:
		want = api.ErrArg
	case there:
		want = api.ErrExists
	case s.free()-3-len(e.Key)-len(e.Value) < 0:
		want = api.ErrFull
	default:
		s.has[e.Key] = e
	}
	p, x := Insert(s.p, e)
	s.becomes("Insert", p, x, want)
}

func (s *story) mark(key string, marked bool) {
	e, there := s.has[key]
	want := api.OK
	switch {
	case !there:
		want = api.ErrNone
	case e.Marked == marked:
		want = api.ErrState
	default:
		e.Marked = marked
		s.has[key] = e
	}
	p, x := Mark(s.p, key, marked)
	s.becomes("Mark", p, x, want)
}

func (s *story) remove(key string) {
	want := api.OK
	if _, there := s.has[key]; !there {
		want = api.ErrNone
	}
	delete(s.has, key)
	p, x := Remove(s.p, key)
	s.becomes("Remove", p, x, want)
}

// split, and stay with one of the halves.
func (s *story) split(right int, stay bool) {
	l := s.entries()
	first, rest, x := Split(s.p, right)
	if len(l) < 2 {
		s.becomes("Split", first, x, api.ErrState)
		return
	}
	at := 1
	for at < len(l)-1 && total(l[:at]) < total(l[at:]) {
		at++
	}
	if !slices.Equal(first.Entries, l[:at]) || first.High != l[at].Key || first.Right != right || rest.High != s.p.High || rest.Right != s.p.Right || !Right(first) || !Right(rest) {
		s.t.Fatal(s.name, first, rest)
	}
	for _, e := range l {
		if Covers(first, e.Key) == (e.Key >= l[at].Key) {
			s.t.Fatal(s.name, first, e)
		}
	}
	if stay {
		s.becomes("Split", first, x, api.OK)
		l = l[:at]
	} else {
		s.becomes("Split", rest, x, api.OK)
		l = l[at:]
	}
	s.has = map[string]page.Entry{}
	for _, e := range l {
		s.has[e.Key] = e
	}
}

func total(l []page.Entry) int {
	n := 0
	for _, e := range l {
		n += 3 + len(e.Key) + len(e.Value)
	}
	return n
}

// right tells where the node is otherwise than the story says.
func (s *story) right(key string) {
	s.t.Helper()
	l := s.entries()
	below := 0
	for _, e := range l {
		if e.Key < key {
			below++
		}
	}
	_, there := s.has[key]
	at, found := Find(s.p, key)
	if !slices.Equal(s.p.Entries, l) || !Right(s.p) || at != below || found != there || page.Free(s.p) != s.free() {
		s.t.Fatalf("%s: %v, not %v", s.name, s.p.Entries, l)
	}
}

func TestP13AnyStory(t *testing.T) {
	numbers := rand.New(rand.NewPCG(13, 1))
	for round := range 300 {
		s := &story{t: t, name: fmt.Sprint("round ", round), p: page.Page{LSN: round, Kind: 3, Right: 5}, has: map[string]page.Entry{}}
		for range 80 {
			key := anyKey(numbers)
			switch x := numbers.IntN(20); {
			case x < 11:
				s.insert(page.Entry{Key: key, Value: strings.Repeat("v", numbers.IntN(100)), Marked: x%2 == 0})
			case x < 14:
				s.mark(key, x%2 == 0)
			case x < 18:
				s.remove(key)
			default:
				s.split(1+numbers.IntN(65535), x%2 == 0)
			}
			s.right(anyKey(numbers))
		}
	}
}

// TestP13NeverPanics of any page and any text: keys that don't rise, Levels and
// Values that may not be.
func TestP13NeverPanics(t *testing.T) {
	numbers := rand.New(rand.NewPCG(13, 2))
	for range 30000 {
		p := page.Page{Kind: numbers.IntN(5), Level: numbers.IntN(4) - 1, Right: numbers.IntN(5) - 2, High: anyKey(numbers)}
		for range numbers.IntN(6) {
			p.Entries = append(p.Entries, page.Entry{Key: anyKey(numbers), Value: strings.Repeat("\x01", numbers.IntN(4)), Marked: numbers.IntN(5) == 0})
		}
		key := anyKey(numbers)
		Right(p)
		Covers(p, key)
		Find(p, key)
		Child(p, key)
		keeps(t, p, func(p page.Page) []page.Page {
			a, _ := Insert(p, page.Entry{Key: key})
			b, _ := Mark(p, key, numbers.IntN(2) == 0)
			c, _ := Remove(p, key)
			d, e, _ := Split(p, numbers.IntN(4))
			return []page.Page{a, b, c, d, e}
		})
	}
}
