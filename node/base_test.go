package node

import (
	"fmt"
	"slices"
	"strings"
	"testing"

	"concordance/api"
	"concordance/page"
)

// leaf has entries of these keys, with their number for a value.
func leaf(high string, keys ...string) page.Page {
	p := page.Page{Kind: 3, High: high}
	for i, key := range keys {
		p.Entries = append(p.Entries, page.Entry{Key: key, Value: fmt.Sprint(i)})
	}
	return p
}

// above has entries of these keys, for the children from page 11 on.
func above(level int, high string, keys ...string) page.Page {
	p := page.Page{Kind: 3, Level: level, High: high}
	for i, key := range keys {
		p.Entries = append(p.Entries, page.Entry{Key: key, Value: string([]byte{0, byte(11 + i)})})
	}
	return p
}

// sized has entries of so many bytes each (layer 5's Size), with the keys a, b, c.
func sized(sizes ...int) page.Page {
	p := page.Page{Kind: 3}
	for i, size := range sizes {
		key := string([]byte{'a' + byte(i)})
		p.Entries = append(p.Entries, page.Entry{Key: key, Value: strings.Repeat("v", size-4)})
	}
	return p
}

func same(p, q page.Page) bool {
	return p.LSN == q.LSN && p.Kind == q.Kind && p.Level == q.Level && p.Right == q.Right && p.High == q.High && slices.Equal(p.Entries, q.Entries)
}

func keysOf(p page.Page) string {
	var l []string
	for _, e := range p.Entries {
		l = append(l, e.Key)
	}
	return strings.Join(l, " ")
}

// roomy has the same entries, in a list with room behind them, in which others
// stand; and ahead of them, too.
func roomy(p page.Page) (page.Page, []page.Entry) {
	other := page.Entry{Key: "other", Value: "of the caller", Marked: true}
	all := append([]page.Entry{other}, p.Entries...)
	for range 4 {
		all = append(all, other)
	}
	p.Entries = all[1 : 1+len(p.Entries)]
	return p, all
}

// keeps tells where f changes what is handed in, or shares its answers' memory
// with it or with one another.
func keeps(t *testing.T, p page.Page, f func(page.Page) []page.Page) {
	t.Helper()
	in, all := roomy(p)
	before := slices.Clone(all)
	answers := f(in)
	if !slices.Equal(all, before) || !same(in, p) {
		t.Errorf("changed: %v, not %v", all, before)
	}
	for i, q := range answers {
		room := q.Entries[:cap(q.Entries)]
		for j := range room {
			room[j] = page.Entry{Key: fmt.Sprint("written by the caller ", i)}
		}
	}
	if !slices.Equal(all, before) {
		t.Error("an answer shares memory with what was handed in")
	}
	for i, q := range answers {
		for _, e := range q.Entries {
			if e.Key != fmt.Sprint("written by the caller ", i) {
				t.Error("two answers share memory")
			}
		}
	}
}

// refuses tells where a call answers another error, or a page beside it.
func refuses(t *testing.T, p page.Page, e, want api.Errno) {
	t.Helper()
	if e != want || !same(p, page.Page{}) {
		t.Errorf("%v %d, not %d", p, e, want)
	}
}

// is tells where a call answers another page, or an error.
func is(t *testing.T, p page.Page, e api.Errno, want page.Page) {
	t.Helper()
	if e != api.OK || !same(p, want) {
		t.Errorf("%v %d, not %v", p, e, want)
	}
}
