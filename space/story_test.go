package space

import (
	"fmt"
	"maps"
	"math/rand/v2"
	"slices"
	"testing"

	"concordance/api"
	"concordance/page"
)

// model of page 0, as the document says it.
type model struct {
	numbers map[string]int
	free    []int // the one that was given back last at the end
	high    int
}

func (m model) copied() model {
	return model{maps.Clone(m.numbers), slices.Clone(m.free), m.high}
}

type story struct {
	*base
	name string
	now  model // in the changes under way
	done model // what was committed
}

func (s *story) same(what string, n int, e api.Errno, want int, wantError api.Errno) {
	s.t.Helper()
	if n != want || e != wantError {
		s.t.Fatalf("%s, %s: %d %d, not %d %d", s.name, what, n, e, want, wantError)
	}
}

// taken: which page is to be taken next, and what the model is then.
func (s *story) taken() (int, api.Errno) {
	if last := len(s.now.free) - 1; last >= 0 {
		n := s.now.free[last]
		s.now.free = s.now.free[:last]
		return n, api.OK
	}
	if s.now.high == s.p.Pages {
		return 0, api.ErrFull
	}
	s.now.high++
	return s.now.high - 1, api.OK
}

func (s *story) given(n int) api.Errno {
	switch {
	case n < 1 || n >= s.now.high:
		return api.ErrArg
	case slices.Contains(s.now.free, n):
		return api.ErrState
	}
	s.now.free = append(s.now.free, n)
	return api.OK
}

func (s *story) unusedOf(pages int) int {
	count := 0
	for n := range max(pages, 0) {
		if n >= s.now.high || slices.Contains(s.now.free, n) {
			count++
		}
	}
	return count
}

func (s *story) anyStep(numbers *rand.Rand) {
	s.t.Helper()
	name := string([]byte{byte('a' + numbers.IntN(6))})
	switch x := numbers.IntN(24); {
	case x < 6:
		want, wantError := s.taken()
		n, e := Take(s.m)
		s.same("Take", n, e, want, wantError)
	case x < 11:
		n := numbers.IntN(s.p.Pages+3) - 1
		want := s.given(n)
		s.same(fmt.Sprint("Give ", n), 0, Give(s.m, n), 0, want)
	case x < 13:
		s.now.numbers[name]++
		n, e := Next(s.m, name)
		s.same("Next "+name, n, e, s.now.numbers[name], api.OK)
	case x < 15:
		s.now.numbers[name] = numbers.IntN(1 << 20)
		s.same("Set "+name, 0, Set(s.m, name, s.now.numbers[name]), 0, api.OK)
	case x < 17:
		n, e := Get(s.m, name)
		s.same("Get "+name, n, e, s.now.numbers[name], api.OK)
	case x < 20:
		pages := numbers.IntN(s.p.Pages+6) - 2
		n, e := Unused(s.m, pages)
		s.same(fmt.Sprint("Unused ", pages), n, e, s.unusedOf(pages), api.OK)
	case x < 22:
		s.commits()
		s.done = s.now.copied()
	case x < 23:
		s.aborts()
		s.now = s.done.copied()
	default:
		s.again()
	}
}

// again: the power fails behind a Flush; what was committed lasts.
func (s *story) again() {
	s.t.Helper()
	s.answers(s.s.Flush(s.s.LSN()), api.OK)
	s.d.Blow()
	s.d.On()
	s.opens()
	s.now = s.done.copied()
}

// right tells where the pages are otherwise than the model says.
func (s *story) right() {
	s.t.Helper()
	for name, n := range s.now.numbers {
		s.gets(name, n)
	}
	s.gets("high", s.now.high)
	last := 0
	for _, n := range s.now.free {
		s.is(n, page.Page{Kind: Free, Right: last})
		last = n
	}
	s.gets("free", last)
	for n := 1; n < s.now.high; n++ {
		if !slices.Contains(s.now.free, n) {
			s.is(n, page.Page{Kind: Node})
		}
	}
	if s.t.Failed() {
		s.t.Fatal(s.name)
	}
}

func TestP12AnyStory(t *testing.T) {
	numbers := rand.New(rand.NewPCG(12, 2))
	for round := range 60 {
		pages := 1 + numbers.IntN(12)
		s := &story{base: started(t, pages, pages+numbers.IntN(3)), name: fmt.Sprint("round ", round)}
		s.done = model{map[string]int{}, nil, 1}
		s.now = s.done.copied()
		for range 150 {
			s.anyStep(numbers)
			s.right()
		}
	}
}
