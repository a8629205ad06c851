package bitmap

import (
	"fmt"
	"math"
	"math/rand/v2"
	"strings"
	"testing"

	"concordance/api"
	"concordance/mini"
	"concordance/page"
	"concordance/record"
	"concordance/space"
)

func TestP16_1Class(t *testing.T) {
	for _, x := range [][2]int{
		{math.MinInt, 0}, {-257, 0}, {-64, 0}, {-1, 0}, {0, 0}, {1, 0}, {62, 0}, {63, 0},
		{64, 1}, {65, 1}, {127, 1}, {128, 2}, {130, 2}, {255, 2},
		{256, 3}, {257, 3}, {489, 3}, {512, 3}, {1024, 3}, {math.MaxInt, 3},
	} {
		if c := Class(x[0]); c != x[1] {
			t.Errorf("%d: %d, not %d", x[0], c, x[1])
		}
	}
}

func TestP16_1Least(t *testing.T) {
	for _, x := range [][2]int{
		{math.MinInt, 0}, {-4, 0}, {-1, 0}, {0, 0}, {1, 64}, {2, 128}, {3, 256}, {4, 0}, {5, 0}, {256, 0}, {math.MaxInt, 0},
	} {
		if n := Least(x[0]); n != x[1] {
			t.Errorf("%d: %d, not %d", x[0], n, x[1])
		}
	}
	// Least is the least free of which the Class is that one.
	for free := -5; free < 600; free++ {
		c := Class(free)
		if Least(c) > max(0, free) || c < 3 && Least(c+1) <= free {
			t.Error(free, c)
		}
	}
}

func TestP16_1Start(t *testing.T) {
	b := without(t, 6, 3)
	for range 2 {
		n, e := space.Take(b.m)
		if e != api.OK {
			t.Fatal(n, e)
		}
	}
	b.answers(space.Give(b.m, 2), api.OK)
	b.commits()
	b.answers(Start(b.m), api.OK) // of the page that was given back
	if n, e := space.Get(b.m, "bits"); n != 2 || e != api.OK {
		t.Error(n, e)
	}
	for range 2 { // in these changes, and once they are committed
		b.is(2, values(noughts(100), noughts(100), noughts(100), noughts(100)))
		for n := range 800 {
			b.gets(n, Flags{})
		}
		b.commits()
	}
	if n, e := space.Take(b.m); n != 3 || e != api.OK {
		t.Error(n, e)
	}
}

func TestP16_1StartTwice(t *testing.T) {
	b := without(t, 6, 3)
	b.answers(Start(b.m), api.OK)
	b.sets(5, Flags{Class: 2})
	b.answers(Start(b.m), api.ErrState) // in the same changes
	b.commits()
	b.answers(Start(b.m), api.ErrState)
	b.untouched()
	b.gets(5, Flags{Class: 2}) // as it was
	if n, e := space.Take(b.m); n != 2 || e != api.OK {
		t.Error(n, e)
	}
	b.aborts()
	// Whatever bits names, it is set; ahead of there being no page.
	for _, n := range []int{1, 5, 6, 800, 1<<48 - 1} {
		b.names(n)
		b.answers(Start(b.m), api.ErrState)
		b.untouched()
	}
	b.answers(space.Set(b.m, "high", 6), api.OK)
	b.commits()
	b.answers(Start(b.m), api.ErrState)
	b.names(0) // that is none
	b.answers(Start(b.m), api.ErrFull)
}

func TestP16_1StartWithoutRoom(t *testing.T) {
	b := without(t, 2, 3)
	b.answers(space.Set(b.m, "high", 2), api.OK)
	b.commits()
	b.answers(Start(b.m), api.ErrFull)
	b.untouched() // behind Take's ErrFull the changes may go on
	b.getsNot(0, api.ErrCorrupt)

	b = without(t, 6, 3) // a page 0 that has no room for bits
	for i := 0; ; i++ {
		if e := space.Set(b.m, fmt.Sprintf("%08d", i), 1); e != api.OK {
			b.answers(e, api.ErrFull)
			break
		}
	}
	for i := 0; ; i++ {
		if e := space.Set(b.m, fmt.Sprint(i), 1); e != api.OK {
			b.answers(e, api.ErrFull)
			break
		}
	}
	b.commits()
	b.answers(Start(b.m), api.ErrFull)
	b.aborts()
	b.untouched()
	if n, e := space.Get(b.m, "bits"); n != 0 || e != api.OK {
		t.Error(n, e)
	}
	b.getsNot(0, api.ErrCorrupt)
}

func TestP16_1StartWithoutPage0(t *testing.T) {
	b := empty(t, 6, 3)
	b.answers(Start(b.m), api.ErrCorrupt)
	b.untouched()
	b.getsNot(0, api.ErrCorrupt)
	b.answers(Set(b.m, 0, Flags{}), api.ErrCorrupt)
	b.untouched()
	b.answers(space.Start(b.m), api.OK)
	b.answers(Start(b.m), api.OK)
	b.gets(0, Flags{})
}

// TestP16WhereTheFlagsStand: each page's four bits, the first one of two in the
// higher half of their byte.
func TestP16WhereTheFlagsStand(t *testing.T) {
	b := started(t, 4, 3)
	for _, n := range []int{0, 1, 2, 3, 99, 100, 101, 198, 199, 200, 201, 399, 400, 401, 599, 600, 601, 798, 799} {
		for i, f := range all() {
			b.sets(n, f)
			want := [4][]byte{}
			var l []string
			for j := range want {
				want[j] = make([]byte, 100)
				if j == n/200 {
					want[j][n%200/2] = byte(i) << (4 * ((n + 1) % 2))
				}
				l = append(l, string(want[j]))
			}
			b.is(flagsAt, values(l...))
			b.gets(n, f)
		}
		b.aborts()
	}
	// The document's words in numbers.
	b.sets(400, Flags{Class: 1, Closed: true})
	b.sets(401, Flags{Class: 3, Buffered: true})
	b.sets(0, Flags{Class: 2})
	b.sets(199, Flags{Closed: true})
	b.sets(200, Flags{Buffered: true})
	p := b.page(flagsAt)
	if p.Entries[2].Value[0] != 0x97 || p.Entries[0].Value[0] != 0x20 || p.Entries[0].Value[99] != 0x08 || p.Entries[1].Value[0] != 0x40 {
		t.Error(p.Entries)
	}
}

func TestP16_2EachFlagAlone(t *testing.T) {
	b := started(t, 4, 3)
	for _, n := range []int{0, 1, 199, 200, 798, 799} {
		for _, f := range all() {
			for _, g := range all() { // over any other ones
				b.sets(n, g)
				b.sets(n, f)
				b.gets(n, f)
			}
			for _, other := range []int{n - 1, n + 1} {
				if 0 <= other && other < 800 {
					b.gets(other, Flags{})
				}
			}
		}
		b.sets(n, Flags{})
		b.gets(n, Flags{})
	}
	b.untouchedFlags()
}

// untouchedFlags: the page of flags is as Start has made it.
func (b *base) untouchedFlags() {
	b.t.Helper()
	b.is(flagsAt, values(noughts(100), noughts(100), noughts(100), noughts(100)))
}

// TestP16_2PagesOfOneByte keep their flags, whatever is Set of the other one.
func TestP16_2PagesOfOneByte(t *testing.T) {
	b := started(t, 4, 3)
	for _, n := range []int{0, 198, 200, 798} {
		for _, f := range all() {
			for _, g := range all() {
				b.sets(n, f)
				b.sets(n+1, g)
				b.gets(n, f)
				b.gets(n+1, g)
				b.sets(n, g)
				b.gets(n, g)
				b.gets(n+1, g)
			}
		}
	}
}

func TestP16_2ErrArg(t *testing.T) {
	b := started(t, 4, 3)
	none := func() {
		t.Helper()
		for _, n := range []int{math.MinInt, -800, -200, -2, -1, 800, 801, 1000, 1 << 40, math.MaxInt} {
			b.getsNot(n, api.ErrArg)
			for _, c := range []int{-1, 0, 3, 4} {
				b.answers(Set(b.m, n, Flags{Class: c}), api.ErrArg)
			}
		}
		for _, c := range []int{math.MinInt, -4, -1, 4, 5, 7, 8, 16, 256, math.MaxInt} {
			for _, n := range []int{0, 1, 199, 799} {
				b.answers(Set(b.m, n, Flags{Class: c}), api.ErrArg)
				b.answers(Set(b.m, n, Flags{c, true, true}), api.ErrArg)
			}
		}
		b.untouched()
	}
	none()
	b.untouchedFlags()
	for _, n := range []int{0, 799} { // the last ones that are
		b.sets(n, Flags{3, true, true})
		b.gets(n, Flags{3, true, true})
		b.answers(Set(b.m, n, Flags{Class: 4}), api.ErrArg) // the changes may go on
		b.gets(n, Flags{3, true, true})
	}
	b.commits()
	b.lays(flagsAt, page.Page{Kind: 3}) // ahead of ErrCorrupt
	none()
	b.names(0)
	none()
}

func TestP16_2ErrCorrupt(t *testing.T) {
	b := without(t, 4, 3)
	corrupt := func(what any) {
		t.Helper()
		for _, n := range []int{0, 1, 399, 799} {
			b.getsNot(n, api.ErrCorrupt)
			if e := Set(b.m, n, Flags{Class: 1}); e != api.ErrCorrupt {
				t.Errorf("%v: %d", what, e)
			}
		}
		b.untouched()
	}
	corrupt("bits isn't set")
	b.answers(Start(b.m), api.OK)
	b.commits()
	good := b.page(flagsAt)
	for _, kind := range []int{1, 2, 3, 5, 255} {
		p := good
		p.Kind = kind
		b.lays(flagsAt, p)
		corrupt(p)
	}
	v := noughts(100)
	for _, p := range []page.Page{
		{Kind: 4},
		values(v),
		values(v, v, v),
		values(v, v, v, ""),
		values(v, v, v, v[:99]),
		values(v[:99], v, v, v),
		values(v, v, v[:1], v),
		values("", "", "", ""),
		values(v, v, v, v[:50], v[:30]),
		values(v, v, v, v, ""),
		values(v[:80], v[:80], v[:80], v[:80], v[:80]),
	} {
		b.lays(flagsAt, p)
		corrupt(p)
	}
	b.lays(flagsAt, good)
	for _, n := range []int{0, 2, 3, 4, 5, 799, 800, 65536, 1<<48 - 1} { // page 0, such as were never taken, such as there aren't
		b.names(n)
		corrupt(n)
	}
	b.names(flagsAt)
	b.gets(799, Flags{})
	b.lays(3, good) // wherever it is
	b.names(3)
	b.sets(799, Flags{Class: 1})
	b.gets(799, Flags{Class: 1})
	b.untouchedFlags()
}

// TestP16_2ValuesThatAreTooLong: no page has one of more than 100 bytes, but its
// bytes may be laid.
func TestP16_2ValuesThatAreTooLong(t *testing.T) {
	b := started(t, 4, 3)
	b.answers(b.s.Checkpoint(""), api.OK)
	body := "\x04\x00\x00\x00\x00\x00\x04"
	for i := range 4 {
		n := 100
		if i == 3 {
			n = 101
		}
		body += string([]byte{0, 1, byte(n), byte(i)}) + noughts(n)
	}
	b.s.Evict(flagsAt)
	b.laid(flagsAt, page.Build(1, body+noughts(496-len(body))))
	b.getsNot(0, api.ErrCorrupt)
	b.answers(Set(b.m, 0, Flags{}), api.ErrCorrupt)
}

// TestP16_2WhatElseThePageHas isn't asked: P16.2 speaks of its Kind, and of how
// many entries there are, of which Values.
func TestP16_2WhatElseThePageHas(t *testing.T) {
	b := started(t, 4, 3)
	p := b.page(flagsAt)
	p.Level, p.Right, p.High = 3, 2, "high"
	for i := range p.Entries {
		p.Entries[i].Key = "other"
		p.Entries[i].Marked = true
	}
	b.lays(flagsAt, p)
	b.sets(401, Flags{Class: 1, Buffered: true})
	b.gets(401, Flags{Class: 1, Buffered: true})
	value := []byte(noughts(100))
	value[0] = 5
	p.Entries[2].Value = string(value)
	b.is(flagsAt, p)
}

// TestP16ErrorsOfTheChanges come as they come.
func TestP16ErrorsOfTheChanges(t *testing.T) {
	for name, call := range map[string]func(*mini.Mini) api.Errno{
		"Start": Start,
		"Get": func(m *mini.Mini) api.Errno {
			f, e := Get(m, 3)
			if f != (Flags{}) {
				t.Error(f)
			}
			return e
		},
		"Set": func(m *mini.Mini) api.Errno { return Set(m, 3, Flags{Class: 1}) },
	} {
		t.Run(name, func(t *testing.T) {
			b := started(t, 6, 2)
			b.answers(call(nil), api.ErrArg)
			b.m.Abort()
			b.answers(call(b.m), api.ErrState)
			b.m = b.s.Begin()
			b.m.Commit(record.Record{Kind: record.Change})
			b.answers(call(b.m), api.ErrState)
			other := b.s.Begin()
			other.Page(4)
			other.Page(5)
			b.m = b.s.Begin()
			b.answers(call(b.m), api.ErrPins)
			b.untouchedButPins()
			other.Abort()
			b.s.Evict(0)
			b.s.Evict(1)
			b.d.Blow()
			b.answers(call(b.m), api.ErrPower)
			b.d.On()
			for _, bytes := range []string{strings.Repeat("torn", 128), page.Build(2, strings.Repeat("x", 496))} {
				b.laid(0, bytes)
				b.answers(call(b.m), api.ErrCorrupt)
			}
			b.untouched()
		})
	}
	for _, call := range []func() api.Errno{
		func() api.Errno { _, e := Get(nil, -1); return e },
		func() api.Errno { return Set(nil, -1, Flags{}) },
		func() api.Errno { return Set(nil, 0, Flags{Class: 9}) },
	} {
		if e := call(); e != api.ErrArg {
			t.Error(e)
		}
	}
}

// untouchedButPins: no page was asked.
func (b *base) untouchedButPins() {
	b.t.Helper()
	for n := range b.s.Pages() {
		if b.asked(n) {
			b.t.Error("asked for page", n)
		}
	}
}

// TestP16_2TornPageOfFlags is no page of flags.
func TestP16_2TornPageOfFlags(t *testing.T) {
	b := started(t, 6, 3)
	b.answers(b.s.Checkpoint(""), api.OK)
	for _, bytes := range []string{strings.Repeat("torn", 128), page.Build(2, strings.Repeat("x", 496)), noughts(512)} {
		b.s.Evict(flagsAt)
		b.laid(flagsAt, bytes)
		b.getsNot(5, api.ErrCorrupt)
		b.answers(Set(b.m, 5, Flags{}), api.ErrCorrupt)
		b.answers(Start(b.m), api.ErrState) // it isn't read
		b.untouched()
	}
}

// TestP16WithFewFrames: Get leaves no page asked; Set and Start those alone that
// they Set.
func TestP16WithFewFrames(t *testing.T) {
	b := without(t, 6, 2)
	b.answers(Start(b.m), api.OK)
	for n := range 6 {
		if b.asked(n) != (n < 2) {
			t.Error(n)
		}
	}
	b.commits()
	for n := range 800 {
		b.gets(n, Flags{})
	}
	b.untouched()
	b.sets(799, Flags{Class: 1})
	for n := range 6 {
		if b.asked(n) != (n == flagsAt) {
			t.Error(n)
		}
	}
	if p, e := b.m.Page(5); p.Kind != 0 || e != api.OK {
		t.Error(p, e)
	}
	b.getsNot(799, api.ErrPins) // page 0 has no frame
	b.m.Leave(5)
	b.gets(799, Flags{Class: 1})
	b.m.Page(0) // what the caller has asked stays so
	b.gets(1, Flags{})
	if !b.asked(0) {
		t.Error("let go of page 0")
	}
}

// TestP16_2AnyStory holds the flags of all pages against a model of them.
func TestP16_2AnyStory(t *testing.T) {
	numbers := rand.New(rand.NewPCG(16, 2))
	for round := range 10 {
		b := started(t, 4, 2+numbers.IntN(3))
		var now, done [800]Flags
		for range 400 {
			n := numbers.IntN(800)
			switch x := numbers.IntN(20); {
			case x < 14:
				f := all()[numbers.IntN(16)]
				b.sets(n, f)
				now[n] = f
			case x < 17:
				b.commits()
				done = now
			case x < 18:
				b.aborts()
				now = done
			case x < 19:
				b.answers(b.s.Flush(b.s.LSN()), api.OK)
				b.d.Blow()
				b.d.On()
				b.opens()
				now = done
			default:
				b.getsNot(-1-n, api.ErrArg)
			}
			for _, n := range []int{n, numbers.IntN(800)} {
				b.gets(n, now[n])
			}
		}
		for n, f := range now {
			b.gets(n, f)
		}
		if t.Failed() {
			t.Fatal("round", round)
		}
	}
}
