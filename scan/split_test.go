package scan

import (
	"fmt"
	"slices"
	"testing"

	"concordance/api"
	"concordance/page"
)

// big entry, of which three go into a leaf that has a long High, or none.
func big(key string) page.Entry {
	return sized(long(key), 140)
}

// grown has leaves of big entries: a tree of two Levels.
func grown(t *testing.T) *base {
	t.Helper()
	b := started(t, 60, 40)
	for i := 10; i < 22; i++ {
		b.inserts(big(fmt.Sprint(i)))
	}
	b.commits()
	if nodes := b.nodes(); len(nodes) != 2 || len(nodes[0]) != 6 {
		t.Fatal(nodes)
	}
	return b
}

// splits a leaf by entries behind its first one, till it has another High.
func (b *base) splits(x place) {
	b.t.Helper()
	for i := range 4 {
		b.puts(big(fmt.Sprint(x.p.Entries[0].Key[:2], "~", i)))
		b.commits()
	}
	if b.page(x.at).High == x.p.High {
		b.t.Fatal("it isn't split", x)
	}
}

// TestP15_1SplitOfAnyLeafBetweenSteps: between two Steps a leaf is split, while the
// cursor is at another one, and its Post is settled or not: nothing is lost, and
// nothing comes twice.
func TestP15_1SplitOfAnyLeafBetweenSteps(t *testing.T) {
	for steps := range 7 {
		for leaf := range 6 {
			for _, settled := range []bool{false, true} {
				for _, from := range []string{"", long("10"), long("13"), long("13") + "\x00", long("17")} {
					b := grown(t)
					h := b.halfway(from, steps)
					b.splits(b.leaves()[leaf])
					if settled {
						b.settles(keysOf(b.entries())...)
						b.commits()
					}
					h.ends(50)
				}
			}
		}
	}
}

// halfway: a cursor that has done some Steps.
type halfway struct {
	*base
	c     *Cursor
	next  string // what is told next begins here
	over  bool
	title string
}

// halfway has told what was there up to the High of the last leaf that it visited.
func (b *base) halfway(from string, steps int) halfway {
	b.t.Helper()
	h := halfway{base: b, c: Open(root, from, ""), next: from, title: fmt.Sprintf("from %q, %d Steps", from, steps)}
	var ahead []place
	for _, x := range b.leaves() {
		if x.p.High == "" || from < x.p.High {
			ahead = append(ahead, x)
		}
	}
	for i := range steps {
		l, over, e := h.c.Step(b.m, nil)
		b.answers(e, api.OK)
		var want []page.Entry
		if i > 0 && !h.over {
			x := ahead[i-1]
			want = between(x.p.Entries, from, "")
			h.next, h.over = x.p.High, x.p.High == ""
		}
		if !slices.Equal(l, want) || over != h.over {
			b.t.Fatalf("%s: %q %t, not %q %t", h.title, keysOf(l), over, keysOf(want), h.over)
		}
	}
	return h
}

// ends: the rest of it tells what is there now, from where it stands.
func (h halfway) ends(most int) {
	h.t.Helper()
	var want []page.Entry
	if !h.over {
		want = between(h.entries(), h.next, "")
	}
	if l, _ := h.whole(h.c, most); !slices.Equal(l, want) {
		h.t.Fatalf("%s: %q, not %q", h.title, keysOf(l), keysOf(want))
	}
}

// TestP15_1SplitOfWhatComesNext, by hand: the cursor stands at the leaf c d.
func TestP15_1SplitOfWhatComesNext(t *testing.T) {
	for _, settled := range []bool{false, true} {
		b := three(t, 12)
		b.answers(b.m.Set(9, page.Page{}), api.ErrState)
		c := Open(root, "", "")
		b.tells(c, false)
		b.tells(c, false, "a", "b")
		b.lays(6, leaf(4, "e", "d", "dd"))
		b.lays(3, leaf(6, "d", "c", "cc"))
		if settled {
			b.lays(root, above(1, 0, "", link("", 2), link("c", 3), link("d", 6), link("e", 4)))
		}
		b.tells(c, false, "c", "cc")
		b.tells(c, false, "d", "dd")
		b.tells(c, true, "e", "f")

		// The leaf on the way to which the cursor is has split, and from is behind it.
		c = Open(root, "ee", "z")
		b.tells(c, false)
		b.lays(7, leaf(0, "", "ee", "f"))
		b.lays(4, leaf(7, "ee", "e", "ed"))
		b.tells(c, false)
		b.tells(c, true, "ee", "f")
	}
}

// TestP15_1SplitOfWhatIsGoneOver, by hand: nothing of it comes twice.
func TestP15_1SplitOfWhatIsGoneOver(t *testing.T) {
	b := three(t, 12)
	c := Open(root, "", "")
	b.tells(c, false)
	b.tells(c, false, "a", "b")
	b.lays(6, leaf(3, "c", "b", "bb"))
	b.lays(2, leaf(6, "b", "a", "aa"))
	b.tells(c, false, "c", "d")
	b.lays(7, leaf(4, "e", "dd"))
	b.lays(3, leaf(7, "dd", "c", "d"))
	b.tells(c, true, "e", "f")
}

// TestP15_1SplitOfTheRoot between any two Steps, where it is a leaf and where it
// isn't, once and more often.
func TestP15_1SplitOfTheRoot(t *testing.T) {
	b := started(t, 20, 20)
	b.inserts(big("b"), big("c"), big("d"))
	c, d := Open(root, "", ""), Open(root, long("c"), "")
	b.inserts(big("a"), big("e"), big("f"), big("g"))
	l, _ := b.whole(c, 20)
	rest, _ := b.whole(d, 20)
	if all := b.entries(); len(b.nodes()) != 2 || !slices.Equal(l, all) || !slices.Equal(rest, between(all, long("c"), "")) {
		t.Error(keysOf(l), keysOf(rest))
	}
	for steps := range 8 {
		for _, from := range []string{"", long("14"), long("20")} {
			b := grown(t)
			h := b.halfway(from, steps)
			for i := 0; len(b.nodes()) < 4; i++ {
				b.inserts(big(fmt.Sprint("2", i%10, "~", i)))
				b.commits()
			}
			h.ends(200)
		}
	}
}

// TestP15_1LeavesWithoutEntries between others tell none, and aren't the last.
func TestP15_1LeavesWithoutEntries(t *testing.T) {
	b := three(t, 1)
	b.lays(3, leaf(4, "e"))
	for _, from := range []string{"", "c", "d", "e"} {
		l, asked := b.whole(Open(root, from, ""), 5)
		if want := between(b.entries(), from, ""); !slices.Equal(l, want) || !slices.Equal(asked, covered(b.leaves(), from, "")) {
			t.Error(from, l, asked)
		}
	}
	c := Open(root, "a", "f")
	b.tells(c, false)
	b.tells(c, false, "a", "b")
	b.tells(c, false)
	b.tells(c, true, "e")
	b.lays(2, leaf(3, "c"))
	b.lays(4, leaf(0, ""))
	if l, asked := b.whole(Open(root, "", ""), 5); l != nil || !slices.Equal(asked, []int{2, 3, 4}) {
		t.Error(l, asked)
	}
}
