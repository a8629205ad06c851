package scan

import (
	"math"
	"strings"
	"testing"

	"concordance/api"
	"concordance/mini"
	"concordance/page"
	"concordance/record"
)

// calls are all that ask for pages; each tells whether it answers anything beside
// its error, and that, where there is one to be told.
func calls() map[string]func(*mini.Mini, int) (bool, api.Errno) {
	return map[string]func(*mini.Mini, int) (bool, api.Errno){
		"Step": func(m *mini.Mini, root int) (bool, api.Errno) {
			l, over, e := Open(root, "b", "e").Step(m, nil)
			return l != nil || over, e
		},
		"Each": func(m *mini.Mini, root int) (bool, api.Errno) {
			told := false
			e := Each(m, root, func(int, page.Page) bool { told = true; return true })
			return told, e
		},
		"Pages": func(m *mini.Mini, root int) (bool, api.Errno) {
			l, e := Pages(m, root)
			return l != nil, e
		},
	}
}

// TestP15ErrorsOfTheChanges come as they come.
func TestP15ErrorsOfTheChanges(t *testing.T) {
	for name, call := range calls() {
		t.Run(name, func(t *testing.T) {
			b := three(t, 2)
			refused := func(want api.Errno) {
				t.Helper()
				if more, e := call(b.m, root); more || e != want {
					t.Errorf("%t %d, not %d", more, e, want)
				}
				for range All(b.m, root) {
					t.Error("All tells more")
				}
				for range Leaves(b.m, root) {
					t.Error("Leaves tells more")
				}
			}
			b.m = nil
			refused(api.ErrArg)
			b.m = ended(b)
			refused(api.ErrState)
			b.m = b.s.Begin()
			b.m.Commit(record.Record{Kind: record.Change})
			refused(api.ErrState)
			other := b.s.Begin()
			other.Page(4)
			other.Page(5)
			b.m = b.s.Begin()
			refused(api.ErrPins)
			other.Abort()
			b.answers(b.s.Checkpoint(""), api.OK)
			b.s.Evict(4)
			b.s.Evict(5)
			b.d.Blow()
			refused(api.ErrPower)
			b.d.On()
			for _, bytes := range []string{strings.Repeat("torn", 128), page.Build(2, strings.Repeat("x", 496))} {
				b.laid(root, bytes)
				refused(api.ErrCorrupt)
			}
			b.untouched()
		})
	}
}

// TestP15RootsThatMayNotBe: each int may be handed in.
func TestP15RootsThatMayNotBe(t *testing.T) {
	for name, call := range calls() {
		b := three(t, 2)
		for _, n := range []int{math.MinInt, -1, 12, 13, 799, 800, 65535, 65536, math.MaxInt} {
			if more, e := call(b.m, n); more || e != api.ErrArg {
				t.Error(name, n, more, e)
			}
		}
		for _, n := range []int{0, 5, 11} { // page 0, and such as were never taken
			if more, e := call(b.m, n); more || e != api.ErrCorrupt {
				t.Error(name, n, more, e)
			}
		}
		b.untouched()
	}
}

// noNodes are pages of which no tree can have one.
func noNodes() []page.Page {
	return []page.Page{
		{Kind: 1}, {Kind: 2}, {Kind: 4}, {Kind: 5}, {Kind: 255},
		leaf(0, "", "b", "a"),
		leaf(0, "", "a", "a"),
		leaf(3, "b", "a", "b"),
		above(1, 0, ""),
		above(1, 0, "", page.Entry{Value: "\x00\x00"}),
		above(1, 0, "", page.Entry{Value: "\x01"}),
		above(1, 0, "", link("", 2), page.Entry{Key: "a", Value: "\x00\x02", Marked: true}),
		above(2, 3, "b", link("a", 2), link("b", 2)),
	}
}

func TestP15NoNodeAtTheRoot(t *testing.T) {
	for name, call := range calls() {
		b := three(t, 2)
		for _, p := range noNodes() {
			b.lays(root, p)
			if more, e := call(b.m, root); more || e != api.ErrCorrupt {
				t.Error(name, p, more, e)
			}
			b.untouched()
		}
	}
}

// TestP15NoNodeOnTheWay: what comes ahead of it is told, and then its error.
func TestP15NoNodeOnTheWay(t *testing.T) {
	wrong := append(noNodes(),
		above(1, 0, "", link("", 2)), // of another Level
		above(3, 4, "e", link("c", 2)),
		leaf(4, "c"), // that begins no sooner than it ends
		leaf(4, "a"),
		leaf(2, "b", "a"), // that would lead back
	)
	for i, p := range wrong {
		b := three(t, 2)
		b.lays(3, p)
		var leaves []int
		told := 0
		e := Each(b.m, root, func(n int, _ page.Page) bool { leaves = append(leaves, n); return true })
		for range All(b.m, root) {
			told++
		}
		if e != api.ErrCorrupt || len(leaves) != 1 || leaves[0] != 2 || told != 2 {
			t.Error(p, e, leaves, told)
		}
		for n := range Leaves(b.m, root) {
			if told++; n != 2 {
				t.Error(n)
			}
		}
		if l, e := Pages(b.m, root); l != nil || e != api.ErrCorrupt || told != 3 {
			t.Error(p, l, e, told)
		}
		b.untouched()
		if i >= len(noNodes()) {
			continue
		}
		c := Open(root, "", "")
		b.tells(c, false)
		b.tells(c, false, "a", "b")
		refuse := func(*mini.Mini, int) api.Errno { t.Error("ready of no node"); return api.ErrFull }
		for range 2 {
			b.tellsNot(c, refuse, api.ErrCorrupt)
			b.untouched()
		}
		b.lays(3, leaf(4, "e", "c")) // the cursor has stayed where it was
		b.tells(c, false, "c")
		b.tells(c, true, "e", "f")
	}
}

// TestP15_1StepStaysWhereItWas behind each error.
func TestP15_1StepStaysWhereItWas(t *testing.T) {
	b := three(t, 2)
	c := Open(root, "b", "")
	fail := func() {
		t.Helper()
		b.tellsNot(c, nil, api.ErrPins)
		if l, over, e := c.Step(nil, nil); l != nil || over || e != api.ErrArg {
			t.Error(l, over, e)
		}
		if l, over, e := c.Step(ended(b), nil); l != nil || over || e != api.ErrState {
			t.Error(l, over, e)
		}
	}
	for _, keys := range [][]string{nil, {"b"}, {"c", "d"}, {"e", "f"}} {
		other := b.s.Begin()
		other.Page(8)
		other.Page(9)
		fail()
		other.Abort()
		b.tells(c, len(keys) > 0 && keys[0] == "e", keys...)
	}
	// Where ready leaves no frame for the page.
	c = Open(root, "", "")
	b.tells(c, false)
	b.tellsNot(c, func(m *mini.Mini, _ int) api.Errno {
		m.Page(8)
		m.Page(9)
		return api.OK
	}, api.ErrPins)
	b.aborts()
	b.tells(c, false, "a", "b")
}

// TestP15NoChild: the first entry of a node is above the key.
func TestP15NoChild(t *testing.T) {
	b := three(t, 2)
	b.lays(root, above(1, 0, "", link("c", 3), link("e", 4)))
	for name, call := range calls() {
		if more, e := call(b.m, root); more || e != api.ErrNone {
			t.Error(name, more, e)
		}
		b.untouched()
	}
	c := Open(root, "c", "")
	b.tells(c, false)
	b.tells(c, false, "c", "d")
}

// TestP15RoundAndRound: pages that were laid by hand lead back; each call ends.
func TestP15RoundAndRound(t *testing.T) {
	for _, x := range []struct {
		n    int
		p    page.Page
		told int // leaves ahead of the error
	}{
		{2, leaf(2, "c", "a"), 1},
		{3, leaf(3, "e", "c"), 2},
		{3, leaf(2, "e", "c"), 2},
		{4, leaf(2, "z", "e"), 3},
		{4, leaf(4, "z", "e"), 3},
		{4, leaf(0, "z", "e"), 3}, // page 0 is no node
		{4, leaf(12, "z", "e"), 3},
		{root, above(1, 1, "e", link("", 2), link("c", 3)), 3},
		{root, above(1, 0, "", link("", 1)), 0},
		{root, above(2, 0, "", link("", 1)), 0},
	} {
		b := three(t, 2)
		b.lays(x.n, x.p)
		told := 0
		e := Each(b.m, root, func(int, page.Page) bool { told++; return true })
		for range Leaves(b.m, root) {
			told++
		}
		l, e2 := Pages(b.m, root)
		ofRoot := x.n == root && x.told > 0 // its row leads back, and no leaves
		if told != 2*x.told || l != nil || e2 == api.OK || (e == api.OK) != ofRoot {
			t.Error(x, told, e, l, e2)
		}
		c := Open(root, "", "")
		last := ""
		for range 30 {
			l, _, _ := c.Step(b.m, nil)
			for _, e := range l {
				if e.Key <= last { // nothing comes twice
					t.Error(x, e.Key, last)
				}
				last = e.Key
			}
		}
		b.untouched()
	}
}
