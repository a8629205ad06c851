package twin

import (
	"fmt"
	"math/rand/v2"
	"slices"
	"strings"
	"testing"

	"concordance/api"
	"concordance/device"
	"concordance/page"
)

// story of an area: what its pages have, as the document says it.
type story struct {
	t        *testing.T
	name     string
	d        *device.Device
	a        *Area
	has      []string         // by page
	underWay map[int][]string // what a Write that the power ended was to write
	beside   []string         // the sectors at the device's end
}

const (
	storySlots = 2
	storyPages = 4
)

func begins(t *testing.T, name string) *story {
	t.Helper()
	d := full(t, 3*storySlots+2*storyPages+2)
	a := areaOf(t, d, 1, storySlots, 1+3*storySlots, storyPages)
	s := &story{t: t, name: name, d: d, a: a}
	for n := range storyPages {
		for i := range 2 {
			d.Write(1+3*storySlots+2*n+i, "")
		}
		s.has = append(s.has, noughts)
	}
	d.Sync()
	sectors := sectorsOf(d)
	s.beside = []string{sectors[0], sectors[len(sectors)-1]}
	return s
}

func (s *story) fails(what ...any) {
	s.t.Helper()
	s.t.Fatal(s.name + ": " + fmt.Sprint(what...))
}

// copied goes its own way.
func (s *story) copied(name string) *story {
	c := *s
	c.name = s.name + name
	c.d = s.d.Copy()
	c.a = areaOf(s.t, c.d, 1, storySlots, 1+3*storySlots, storyPages)
	c.has = slices.Clone(s.has)
	return &c
}

// writes some images, or is under way.
func (s *story) writes(images ...Image) bool {
	s.t.Helper()
	e := s.a.Write(images)
	if e != api.OK && e != api.ErrPower || s.d.Off() != (e == api.ErrPower) {
		s.fails("Write: ", e)
	}
	s.underWay = map[int][]string{}
	for _, i := range images {
		if e == api.OK {
			s.has[i.Page] = i.Bytes
		} else {
			s.underWay[i.Page] = append(s.underWay[i.Page], i.Bytes)
		}
	}
	return e == api.OK
}

// repairs once the power is on again, and tells where a page has what it may not
// have; from then on it has just that.
func (s *story) repairs() {
	s.t.Helper()
	s.d.On()
	if _, e := s.a.Repair(); e != api.OK {
		s.fails("Repair: ", e)
	}
	s.right()
	if n, e := s.a.Repair(); n != 0 || e != api.OK {
		s.fails("Repair again: ", n, e)
	}
}

func (s *story) right() {
	s.t.Helper()
	for n, has := range s.has {
		bytes, e := s.a.Read(n)
		if e != api.OK || !page.Whole(bytes) {
			s.fails("page ", n, ": ", e, " torn")
		}
		if bytes != has && !slices.Contains(s.underWay[n], bytes) {
			s.fails(fmt.Sprintf("page %d has %.12q, it had %.12q, under way %.12q", n, bytes, has, s.underWay[n]))
		}
		s.has[n] = bytes
	}
	sectors := sectorsOf(s.d)
	if !slices.Equal([]string{sectors[0], sectors[len(sectors)-1]}, s.beside) {
		s.fails("written beside the area")
	}
}

// subsets has each list of so many noughts and ones.
func subsets(count int) [][]int {
	l := [][]int{nil}
	for range count {
		var longer [][]int
		for _, s := range l {
			longer = append(longer, append(slices.Clone(s), 0), append(slices.Clone(s), 1))
		}
		l = longer
	}
	return l
}

// failures has the story behind each way in which the power can fail in a call:
// at each of its commands, whatever of at most so many writes is kept.
func (s *story) failures(most int, call func(*story) api.Errno) []*story {
	s.t.Helper()
	var all []*story
	seen := map[string]bool{}
	for n := 0; ; n++ {
		for _, keep := range subsets(most) {
			c := s.copied(fmt.Sprint(", at ", n, keep))
			c.d.Fuse(n+1, keep...)
			if e := call(c); e == api.OK {
				return all
			} else if e != api.ErrPower {
				c.fails(e)
			}
			c.d.On()
			if sectors := strings.Join(sectorsOf(c.d), ""); !seen[sectors] {
				seen[sectors] = true
				all = append(all, c)
			}
		}
	}
}

func writing(images ...Image) func(*story) api.Errno {
	return func(s *story) api.Errno {
		if s.writes(images...) {
			return api.OK
		}
		return api.ErrPower
	}
}

func repairing(s *story) api.Errno {
	_, e := s.a.Repair()
	return e
}

// TestP9_4AtEachCommand: a Write fails, then its Repair, then the Repair of that;
// each at each command, whatever is kept.
func TestP9_4AtEachCommand(t *testing.T) {
	a, b, c, d := bytesOf(1, "a"), bytesOf(2, "b"), bytesOf(3, "c"), bytesOf(4, "d")
	ahead := map[string][]Image{
		"new":              nil,
		"each":             {{0, a}, {1, a}, {2, b}, {3, b}},
		"the same":         {{2, a}, {1, b}},
		"turned round":     {{1, a}, {2, b}},
		"one slot is left": {{0, a}, {1, b}, {3, b}},
	}
	for name, first := range ahead {
		for _, images := range [][]Image{{{1, c}}, {{1, c}, {2, d}}, {{2, c}, {1, d}, {0, d}}, {{1, c}, {1, d}}} {
			s := begins(t, fmt.Sprint(name, ", ", len(images)))
			s.writes(first...)
			repaired := 0
			for _, torn := range s.failures(3*storySlots, writing(images...)) {
				for _, again := range torn.failures(2*storySlots, repairing) {
					for _, more := range again.failures(2*storySlots, repairing) {
						more.repairs()
					}
					again.repairs()
					repaired++
				}
				torn.repairs()
			}
			if repaired == 0 {
				s.fails("no page was torn")
			}
		}
	}
}

// TestP9_4WhatWasSyncedLasts: of two rounds the first one isn't under way any
// more when the second one is.
func TestP9_4WhatWasSyncedLasts(t *testing.T) {
	s := begins(t, "rounds")
	images := []Image{{0, bytesOf(5, "a")}, {1, bytesOf(5, "b")}, {2, bytesOf(5, "c")}}
	for _, n := range []int{13, 14, 15, 16, 17, 18, 19} { // 12 commands are the first round's
		for _, keep := range subsets(3) {
			c := s.copied(fmt.Sprint(" at ", n, keep))
			c.d.Fuse(n, keep...)
			if c.writes(images...) {
				c.fails("all commands are done")
			}
			c.repairs()
			for _, i := range images[:2] {
				if c.has[i.Page] != i.Bytes {
					c.fails("page ", i.Page, " has what it had")
				}
			}
			if n > 17 && c.has[2] != images[2].Bytes && keep[0] == 1 {
				c.fails("its place is torn, its slot lasts: it has what it had")
			}
		}
	}
}

func TestP9_4ThePowerFailsBetweenTwoCalls(t *testing.T) {
	for _, keep := range subsets(3) {
		s := begins(t, fmt.Sprint("between ", keep))
		blow := func() {
			t.Helper()
			s.d.Blow(keep...)
			s.d.On()
			s.underWay = nil
			s.right()
		}
		blow()
		s.writes(Image{0, bytesOf(1, "a")}, Image{3, bytesOf(1, "b")}, Image{2, bytesOf(1, "c")})
		blow()
		s.d.Write(1+3*storySlots, "torn")
		s.d.Write(1+3*storySlots+2*2, "torn")
		s.d.Sync()
		s.d.Write(1, headOf(0)) // a slot of page 0, of what page 2 has
		s.d.Write(2, bytesOf(1, "c")[:api.Sector])
		s.d.Write(3, bytesOf(1, "c")[api.Sector:])
		if n, e := s.a.Repair(); n != 1 || e != api.OK {
			s.fails(n, e)
		}
		s.d.Blow(keep...)
		s.d.On()
		if bytes, _ := s.a.Read(0); bytes != bytesOf(1, "c") {
			s.fails("what was repaired didn't last")
		}
	}
}

func anyKeep(numbers *rand.Rand) []int {
	keep := make([]int, numbers.IntN(7))
	for i := range keep {
		keep[i] = numbers.IntN(2)
	}
	return keep
}

// TestP9_4AnyStory has Writes one behind the other, with LSNs that don't fall, as
// those of a log don't; the power fails in many of them, and in Repairs.
func TestP9_4AnyStory(t *testing.T) {
	numbers := rand.New(rand.NewPCG(9, 4))
	for round := range 300 {
		s := begins(t, fmt.Sprint("round ", round))
		lsn := 0
		for step := range 60 {
			lsn += numbers.IntN(2)
			images := make([]Image, numbers.IntN(6))
			for i := range images {
				images[i] = Image{numbers.IntN(storyPages), bytesOf(lsn, fmt.Sprint(step, ".", i))}
			}
			if numbers.IntN(3) > 0 {
				s.d.Fuse(1+numbers.IntN(20), anyKeep(numbers)...)
			}
			whole := s.writes(images...)
			for !whole && numbers.IntN(2) == 0 {
				s.d.On()
				s.d.Fuse(1+numbers.IntN(6), anyKeep(numbers)...)
				repairing(s)
			}
			if whole {
				s.d.On()
				s.right()
			} else {
				s.repairs()
			}
		}
	}
}
