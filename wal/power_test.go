package wal

import (
	"fmt"
	"math/rand/v2"
	"slices"
	"testing"

	"concordance/api"
	"concordance/device"
)

// story of a log: what is known of its texts, as the document says it.
type story struct {
	t        *testing.T
	name     string
	d        *device.Device
	at, half int
	l        *Log
	lasting  []string // since the last Switch that lasts, as far as they were flushed
	waiting  []string // appended since
	texts    int      // so that no two are the same
}

func (s *story) fails(what ...any) {
	s.t.Helper()
	s.t.Fatal(s.name + ": " + fmt.Sprint(what...))
}

// text of so many bytes, or a few more: no other one of the story is the same.
func (s *story) text(size int) string {
	s.texts++
	name := fmt.Sprint(s.texts, ".")
	return name + filled(max(0, size-len(name)))
}

// told tells where a log has other texts than it may have; may is the text of a
// Switch under way, if there is one.
func (s *story) told(texts []string, may ...string) {
	s.t.Helper()
	all := slices.Concat(s.lasting, s.waiting)
	switched := len(may) == 1 && slices.Equal(texts, may)
	stays := len(texts) >= len(s.lasting) && len(texts) <= len(all) && slices.Equal(texts, all[:len(texts)])
	if !switched && !stays {
		s.fails(fmt.Sprintf("Open: %.30q, not %.30q and perhaps %.30q, or %.30q", texts, s.lasting, s.waiting, may))
	}
	s.lasting, s.waiting = texts, nil
}

// opens the log behind a power failure.
func (s *story) opens(may ...string) {
	s.t.Helper()
	s.d.On()
	l, texts, e := Open(s.d, s.at, s.half)
	if e != api.OK {
		s.fails("Open: ", e)
	}
	s.told(texts, may...)
	s.l = l
}

func (s *story) formats(size int) bool {
	s.t.Helper()
	first := s.text(size)
	e := Format(s.d, s.at, s.half, first)
	if e == api.ErrPower {
		s.d.On()
		l, texts, e := Open(s.d, s.at, s.half)
		if e == api.ErrForm && l == nil && len(texts) == 0 {
			return false
		}
		if e != api.OK || len(texts) != 1 || texts[0] != first {
			s.fails(fmt.Sprintf("behind Format: %.30q %d", texts, e))
		}
	} else if e != api.OK {
		s.fails("Format: ", e)
	}
	s.lasting, s.waiting = []string{first}, nil
	return true
}

func (s *story) appends(size int) {
	s.t.Helper()
	text := s.text(size)
	want := api.OK
	if s.l.Room() < 2+len(text) {
		want = api.ErrLog
	}
	if e := s.l.Append(s.texts, text); e != want {
		s.fails("Append: ", e)
	}
	if want == api.OK {
		s.waiting = append(s.waiting, text)
	}
}

func (s *story) flushes() bool {
	s.t.Helper()
	e := s.l.Flush()
	if e == api.ErrPower {
		s.opens()
		return false
	}
	if e != api.OK {
		s.fails("Flush: ", e)
	}
	s.lasting, s.waiting = slices.Concat(s.lasting, s.waiting), nil
	return true
}

func (s *story) switches(size int) bool {
	s.t.Helper()
	text := s.text(size)
	e := s.l.Switch(s.texts, text)
	if e == api.ErrPower {
		s.opens(text)
		return false
	}
	if e != api.OK {
		s.fails("Switch: ", e)
	}
	s.lasting, s.waiting = []string{text}, nil
	return true
}

// same tells where Open doesn't tell what lasts, and nothing else: where nothing
// waits that may be lost or kept.
func (s *story) same() {
	s.t.Helper()
	if _, texts, e := Open(s.d, s.at, s.half); e != api.OK || !slices.Equal(texts, s.lasting) {
		s.fails(fmt.Sprintf("Open: %.30q %d, not %.30q", texts, e, s.lasting))
	}
}

// keeps has what is kept: nothing, all, some.
func keeps() [][]int {
	return [][]int{nil, {1}, {0, 1}, {1, 0}, {1, 1, 0}, {0, 0, 1}, {1, 0, 0}, {0, 1, 1}, {0, 1, 0}, {1, 0, 1, 1}, {0, 0, 0, 1}}
}

// play goes through all the calls, with texts that go over the sectors' ends,
// and with some that end there; at the command fuse, if it is above 0, the power
// fails.
func (s *story) play(fuse int, keep ...int) {
	s.t.Helper()
	s.opens()
	if fuse > 0 {
		s.d.Fuse(fuse, keep...)
	}
	_ = s.switches(300) && s.playOn()
	s.d.On()
	s.same()
}

func (s *story) playOn() bool {
	s.t.Helper()
	for _, size := range []int{10, 500, 20} {
		s.appends(size)
	}
	if !s.flushes() {
		return false
	}
	s.appends(s.l.Room()%room - 2) // up to a sector's end
	if !s.flushes() {
		return false
	}
	s.appends(30)
	s.appends(room)
	if !s.flushes() {
		return false
	}
	s.appends(room)
	if !s.switches(700) {
		return false
	}
	s.appends(600)
	return s.flushes() && s.switches(5) && s.flushes()
}

// commands of a call: how many there are.
func commands(d *device.Device, call func()) int {
	_, before := d.Open()
	call()
	_, done := d.Open()
	return done - before
}

// begins on a device with sectors beside the log's.
func begins(t *testing.T, name string, at, half int) *story {
	t.Helper()
	d := made(t, at+2+2*half+1, nil)
	for i := range d.Size() {
		if i < at || i == d.Size()-1 {
			d.Write(i, "beside it")
		}
	}
	d.Sync()
	return &story{t: t, name: name, at: at, half: half, d: d}
}

// ends tells where something was written beside the log.
func (s *story) ends() {
	s.t.Helper()
	for i, sector := range image(s.d) {
		if (i < s.at || i == s.d.Size()-1) && sector != padded("beside it", api.Sector) {
			s.fails("written beside the log: ", i)
		}
	}
}

func TestP8_4FormatAtEachCommand(t *testing.T) {
	for _, size := range []int{1, 240, 241, 900} {
		s := begins(t, "Format", 1, 7)
		all := commands(s.d, func() { s.formats(size) })
		for n := range all {
			for _, keep := range keeps() {
				s := begins(t, fmt.Sprint("Format of ", size, " at ", n, keep), 1, 7)
				s.d.Fuse(n+1, keep...)
				if s.formats(size) && n < all-1 {
					s.fails("there is a master already")
				}
				// Whatever it left, it can be formatted, and goes on.
				if !s.formats(size + 50) {
					s.fails("Format")
				}
				s.play(0)
				s.ends()
			}
		}
	}
}

func TestP8_4FormatAgainAtEachCommand(t *testing.T) {
	for side := range 2 {
		for n := range 6 {
			for _, keep := range keeps() {
				s := begins(t, fmt.Sprint("Format again at ", n, keep), 0, 7)
				s.formats(500)
				s.opens()
				for range 2 - side {
					s.switches(600)
				}
				old := s.lasting
				s.d.Fuse(n+1, keep...)
				first := s.text(600)
				if e := Format(s.d, 0, 7, first); e != api.ErrPower {
					s.fails("Format: ", e)
				}
				s.d.On()
				_, texts, e := Open(s.d, 0, 7)
				lasts := e == api.OK && slices.Equal(texts, []string{first})
				stays := e == api.OK && slices.Equal(texts, old)
				// The half 0 is begun, also where it is the one that counts: what that
				// had may be gone then.
				if !lasts && !stays && (side == 1 || e != api.ErrCorrupt) {
					s.fails(fmt.Sprintf("Open: %.30q %d", texts, e))
				}
				s.formats(30)
				s.play(0)
			}
		}
	}
}

func TestP8_4AtEachCommandAndAgain(t *testing.T) {
	s := begins(t, "all", 2, 7)
	s.formats(20)
	all := commands(s.d, func() { s.play(0) })
	if all < 25 {
		t.Error("only", all, "commands")
	}
	for n := range all {
		for i, keep := range keeps() {
			for j, keepAgain := range keeps() {
				s := begins(t, fmt.Sprint("at ", n, keep, " and again ", keepAgain), 2, 7)
				s.formats(20)
				s.play(n+1, keep...)
				s.play((n+5*i+j)%all+1, keepAgain...)
				s.play(0)
				s.ends()
			}
		}
	}
}

func TestP8_4ThePowerFailsBetweenTwoCalls(t *testing.T) {
	for _, keep := range keeps() {
		s := begins(t, fmt.Sprint("between ", keep), 0, 3)
		blow := func() {
			t.Helper()
			s.d.Blow(keep...)
			s.d.On()
			s.same()
		}
		s.formats(20)
		blow()
		s.opens()
		blow()
		s.switches(300)
		blow()
		s.appends(20)
		blow()
		s.appends(100)
		s.flushes()
		blow()
		s.appends(50)
		s.switches(10)
		blow()
	}
}

func anyKeep(numbers *rand.Rand) []int {
	keep := make([]int, numbers.IntN(6))
	for i := range keep {
		keep[i] = numbers.IntN(2)
	}
	return keep
}

// anySize of a text: often one that ends at a sector's end, or beside it.
func (s *story) anySize(numbers *rand.Rand) int {
	switch numbers.IntN(4) {
	case 0:
		return 1 + numbers.IntN(20)
	case 1:
		return 1 + numbers.IntN(2*room)
	case 2:
		return s.l.Room() - 2 + numbers.IntN(2)
	}
	return s.l.Room()%room + room*numbers.IntN(2) - 3 + numbers.IntN(3)
}

// anyStep is a call, or a power failure between two.
func (s *story) anyStep(numbers *rand.Rand) {
	s.t.Helper()
	switch n := numbers.IntN(20); {
	case n < 9:
		s.appends(s.anySize(numbers))
	case n < 15:
		s.flushes()
	case n < 18:
		s.switches(1 + numbers.IntN(room*s.half-10))
	case n < 19:
		s.d.Blow(anyKeep(numbers)...)
		s.d.On()
	default:
		s.d.Blow(anyKeep(numbers)...)
		s.opens()
	}
}

func TestP8_4AnyStory(t *testing.T) {
	numbers := rand.New(rand.NewPCG(8, 4))
	for round := range 400 {
		s := begins(t, fmt.Sprint("round ", round), numbers.IntN(3), 1+numbers.IntN(5))
		s.d.Fuse(1+numbers.IntN(6), anyKeep(numbers)...)
		for !s.formats(1 + numbers.IntN(room-10)) {
			s.d.Fuse(1+numbers.IntN(6), anyKeep(numbers)...)
		}
		s.opens()
		for range 150 {
			if s.l.Room() == 0 && s.l.Append(0, "a") == api.ErrState {
				s.d.Fuse(1+numbers.IntN(9), anyKeep(numbers)...)
				s.switches(1 + numbers.IntN(room*s.half-10))
				continue
			}
			if numbers.IntN(3) == 0 {
				s.d.Fuse(1+numbers.IntN(9), anyKeep(numbers)...)
			}
			s.anyStep(numbers)
			s.same()
		}
		s.ends()
	}
}
