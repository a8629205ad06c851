package pool

import (
	"fmt"
	"maps"
	"math/rand/v2"
	"slices"
	"testing"

	"concordance/api"
)

// model of a pool, as the document says it.
type model struct {
	*base
	name   string
	frames int
	steps  int
	held   map[int]modelFrame
	stored []string // on the device, by page
	torn   map[int]bool
	want   []int // what flush is to be asked
}

type modelFrame struct {
	bytes  string
	pins   int
	dirty  bool
	pinned int // at which step
}

func (m *model) check(what string, e, want api.Errno) {
	m.t.Helper()
	if e != want {
		m.t.Fatalf("%s, step %d, %s: %d, not %d", m.name, m.steps, what, e, want)
	}
	m.base.holds(slices.Sorted(maps.Keys(m.held)), m.dirty())
	m.askedOnly(m.want...)
	m.want = nil
	if m.t.Failed() {
		m.t.Fatal(m.name, "step", m.steps, what)
	}
}

func (m *model) dirty() []int {
	var l []int
	for n, f := range m.held {
		if f.dirty {
			l = append(l, n)
		}
	}
	slices.Sort(l)
	return l
}

func lsnOf(bytes string) int {
	n := 0
	for _, b := range []byte(bytes[:6]) {
		n = n<<8 + int(b)
	}
	return n
}

// writes pages, if nothing is in the way.
func (m *model) writes(pages []int) api.Errno {
	if len(pages) == 0 {
		return api.OK
	}
	last := 0
	for _, n := range pages {
		last = max(last, lsnOf(m.held[n].bytes))
	}
	m.want = append(m.want, last)
	if m.fails != api.OK {
		return m.fails
	}
	if m.d.Off() {
		return api.ErrPower
	}
	for _, n := range pages {
		f := m.held[n]
		m.stored[n], f.dirty = f.bytes, false
		m.held[n] = f
		delete(m.torn, n)
	}
	return api.OK
}

func (m *model) evicts(n int) api.Errno {
	f, ok := m.held[n]
	if !ok {
		return api.ErrNone
	}
	if f.pins > 0 {
		return api.ErrPins
	}
	if f.dirty {
		if e := m.writes([]int{n}); e != api.OK {
			return e
		}
	}
	delete(m.held, n)
	return api.OK
}

// oldest that isn't pinned; -1, where all are.
func (m *model) oldest() int {
	oldest := -1
	for n, f := range m.held {
		if f.pins == 0 && (oldest < 0 || f.pinned < m.held[oldest].pinned) {
			oldest = n
		}
	}
	return oldest
}

func (m *model) pins(n int) (string, api.Errno) {
	if n < 0 || n >= len(m.stored) {
		return "", api.ErrArg
	}
	f, ok := m.held[n]
	if !ok {
		if len(m.held) == m.frames {
			oldest := m.oldest()
			if oldest < 0 {
				return "", api.ErrPins
			}
			if e := m.evicts(oldest); e != api.OK {
				return "", e
			}
		}
		if m.d.Off() {
			return "", api.ErrPower
		}
		if m.torn[n] {
			return "", api.ErrCorrupt
		}
		f.bytes = m.stored[n]
	}
	f.pins++
	f.pinned = m.steps
	m.held[n] = f
	return f.bytes, api.OK
}

func (m *model) anyPin(n int) {
	m.t.Helper()
	want, e := m.pins(n)
	got, answer := m.p.Pin(n)
	m.check(fmt.Sprint("Pin ", n), answer, e)
	if got != want {
		m.t.Fatalf("%s, step %d: Pin %d: %.20q, not %.20q", m.name, m.steps, n, got, want)
	}
}

func (m *model) anyUnpin(n int) {
	m.t.Helper()
	f := m.held[n]
	e := api.OK
	if f.pins == 0 {
		e = api.ErrState
	} else {
		f.pins--
		m.held[n] = f
	}
	m.check(fmt.Sprint("Unpin ", n), m.p.Unpin(n), e)
}

func (m *model) anyPut(n int, bytes string) {
	m.t.Helper()
	f := m.held[n]
	e := api.OK
	switch {
	case f.pins == 0:
		e = api.ErrState
	case slices.Contains(notWhole(), bytes):
		e = api.ErrArg
	default:
		f.dirty = f.dirty || f.bytes != bytes
		f.bytes = bytes
		m.held[n] = f
	}
	m.check(fmt.Sprint("Put ", n), m.p.Put(n, bytes), e)
}

func (m *model) anyStep(numbers *rand.Rand) {
	m.t.Helper()
	m.steps++
	n := numbers.IntN(len(m.stored)+2) - 1
	m.fails = api.OK
	if numbers.IntN(8) == 0 {
		m.fails = api.Errno(1 + numbers.IntN(19))
	}
	switch x := numbers.IntN(20); {
	case x < 7:
		m.anyPin(n)
	case x < 12:
		m.anyUnpin(n)
	case x < 15:
		bytes := bytesOf(numbers.IntN(1000), fmt.Sprint(numbers.IntN(3)))
		if numbers.IntN(6) == 0 {
			bytes = notWhole()[numbers.IntN(len(notWhole()))]
		} else if f, ok := m.held[n]; ok && numbers.IntN(3) == 0 {
			bytes = f.bytes
		}
		m.anyPut(n, bytes)
	case x < 17:
		e := m.evicts(n)
		m.check(fmt.Sprint("Evict ", n), m.p.Evict(n), e)
	case x < 18:
		e := m.writes(m.dirty())
		m.check("Flush", m.p.Flush(), e)
	case x < 19 && n >= 0 && n < len(m.stored) && !m.d.Off():
		m.laid(n, notWhole()[3])
		m.torn[n] = true
	case m.d.Off():
		m.d.On()
	case numbers.IntN(4) == 0:
		m.d.Blow()
	}
}

func TestP10_3AnyStory(t *testing.T) {
	numbers := rand.New(rand.NewPCG(10, 3))
	for round := range 150 {
		frames, pages := 1+numbers.IntN(5), 1+numbers.IntN(8)
		m := &model{base: based(t, pages, frames), name: fmt.Sprint("round ", round), frames: frames, held: map[int]modelFrame{}, torn: map[int]bool{}}
		for n := range pages {
			m.stored = append(m.stored, first(n))
		}
		for range 300 {
			m.anyStep(numbers)
		}
		m.d.On()
		for n, want := range m.stored {
			if !m.torn[n] {
				m.base.stored(n, want)
			}
		}
	}
}
